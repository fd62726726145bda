package clause

import (
	"math"
	"slices"
	"testing"

	"knots/api"
)

func of(t *testing.T, lits ...int) Clause {
	t.Helper()
	var all Clause
	for _, lit := range lits {
		one, ok := Of(lit)
		if !ok {
			t.Fatalf("%d is a literal", lit)
		}
		all |= one
	}
	return all
}

func TestOfTakesLiteralsAlone(t *testing.T) {
	for _, n := range []int{0, api.MaxVar + 1, -api.MaxVar - 1, 64, -64, math.MaxInt, math.MinInt} {
		if c, ok := Of(n); ok || c != 0 {
			t.Errorf("Of(%d) = %d, %t", n, c, ok)
		}
	}
	var all Clause
	for v := 1; v <= api.MaxVar; v++ {
		for _, lit := range []int{v, -v} {
			one := of(t, lit)
			if !one.Single() || one&all != 0 || one.first() != lit {
				t.Errorf("Of(%d) = %b, behind %b", lit, one, all)
			}
			all |= one
		}
	}
}

func TestOpposites(t *testing.T) {
	for _, c := range [][2][]int{{{}, {}}, {{1}, {-1}}, {{-12}, {12}}, {{1, -2, 12}, {-1, 2, -12}}, {{3, -3}, {3, -3}}} {
		if of(t, c[0]...).Opposites() != of(t, c[1]...) {
			t.Errorf("the opposites of %d are %d", c[0], c[1])
		}
	}
}

func TestAlwaysTrue(t *testing.T) {
	for _, lits := range [][]int{{}, {1}, {1, -2, 3}, {-11, 12}} {
		if of(t, lits...).AlwaysTrue() {
			t.Errorf("%d is not always true", lits)
		}
	}
	for _, lits := range [][]int{{1, -1}, {-12, 3, 12}} {
		if !of(t, lits...).AlwaysTrue() {
			t.Errorf("%d is always true", lits)
		}
	}
}

func TestSingle(t *testing.T) {
	if of(t).Single() || of(t, 1, 2).Single() || of(t, 1, -1).Single() || !of(t, -7).Single() {
		t.Error("single is one literal, no fewer and no more")
	}
}

func TestSizeAndLiterals(t *testing.T) {
	for _, c := range [][2][]int{{{}, {}}, {{-7}, {-7}}, {{-12, 2, -1}, {-1, 2, -12}}, {{-11, 11, 10, 11}, {10, 11, -11}}} {
		all := of(t, c[0]...)
		if got := all.Literals(); !slices.Equal(got, c[1]) || all.Size() != len(c[1]) {
			t.Errorf("the literals of %d are %d, of size %d", c[0], got, all.Size())
		}
	}
}

func TestFromNumbers(t *testing.T) {
	for _, numbers := range [][]int{nil, {1}, {2, -1, 2}, {12, -12}} {
		if got, ok := FromNumbers(numbers); !ok || got != of(t, numbers...) {
			t.Errorf("FromNumbers(%d) = %d, %t", numbers, got, ok)
		}
	}
	for _, numbers := range [][]int{{0}, {1, 13}, {-13, 2}, {1, -1, math.MinInt}, {math.MaxInt}} {
		if got, ok := FromNumbers(numbers); ok || got != 0 {
			t.Errorf("FromNumbers(%d) = %d, %t", numbers, got, ok)
		}
	}
}

func TestLine(t *testing.T) {
	for line, lits := range map[string][]int{"\n": nil, "1\n": {1}, "-1 2 -12\n": {-12, 2, -1}, "10 11 -11\n": {-11, 11, 10}} {
		if got := of(t, lits...).Line(); got != line {
			t.Errorf("the line of %d is %q, not %q", lits, line, got)
		}
	}
}

func TestWords(t *testing.T) {
	for _, c := range []struct {
		line  string
		words []string
		ended bool
	}{
		{"", nil, false}, {"\n", nil, true}, {"1", []string{"1"}, false}, {"1 2\n", []string{"1", "2"}, true},
		{"d \n", []string{"d", ""}, true}, {" \n", []string{"", ""}, true},
	} {
		if words, ended := Words(c.line); !slices.Equal(words, c.words) || ended != c.ended {
			t.Errorf("Words(%q) = %q, %t", c.line, words, ended)
		}
	}
}

func TestReadKeepsOrderAndCopies(t *testing.T) {
	all, errno, line := Read("2 1\n\n1 2 1\n")
	want := []Clause{of(t, 1, 2), 0, of(t, 1, 2)}
	if !slices.Equal(all, want) || errno != api.OK || line != 0 {
		t.Errorf("Read = %d, %d, %d", all, errno, line)
	}
}

func TestReadGivesNothingWithAnError(t *testing.T) {
	if all, errno, line := Read("1\n2\n3"); all != nil || errno != api.ErrText || line != 3 {
		t.Errorf("Read = %d, %d, %d", all, errno, line)
	}
}
