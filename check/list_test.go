package check

import (
	"testing"

	"knots/api"
	"knots/clause"
)

func listOf(t *testing.T, text string) *list {
	t.Helper()
	all, errno, _ := clause.Read(text)
	if errno != api.OK {
		t.Fatalf("%q can not be read: %d", text, errno)
	}
	return newList(all)
}

func one(t *testing.T, line string) clause.Clause {
	t.Helper()
	all, errno, _ := clause.Read(line)
	if errno != api.OK || len(all) != 1 {
		t.Fatalf("%q is no line", line)
	}
	return all[0]
}

func TestDropTakesOneAway(t *testing.T) {
	l, c := listOf(t, "1 2\n2 1\n"), one(t, "1 2\n")
	if !l.drop(c) || !l.drop(c) || l.drop(c) {
		t.Error("what is there twice can go twice")
	}
	l.add(c)
	if !l.drop(c) || l.drop(c) {
		t.Error("what is added anew can go once more")
	}
	if l.drop(0) {
		t.Error("the clause without literals is not there")
	}
}

func TestAClauseThatIsGoneIsNotUsed(t *testing.T) {
	l := listOf(t, "1\n-1 2\n")
	if !l.follows(one(t, "2\n")) {
		t.Error("2 follows")
	}
	l.drop(one(t, "1\n"))
	if l.follows(one(t, "2\n")) {
		t.Error("2 does not follow any more")
	}
}

func TestToLookWhetherAClauseFollowsChangesNothing(t *testing.T) {
	l := listOf(t, "1 2\n-1 2\n")
	for range 3 {
		if !l.follows(one(t, "2\n")) || l.follows(one(t, "1\n")) {
			t.Error("2 follows, 1 does not")
		}
	}
}

func TestReadStep(t *testing.T) {
	for line, goes := range map[string]bool{"\n": false, "1 2\n": false, "d\n": true, "d 1 2\n": true} {
		if _, got, ok := readStep(line); !ok || got != goes {
			t.Errorf("readStep(%q) = %t, %t", line, got, ok)
		}
	}
	for _, line := range []string{"", "d", "d \n", "d1\n", "dd\n", "1 d\n", "1"} {
		if _, _, ok := readStep(line); ok {
			t.Errorf("%q is no step", line)
		}
	}
}
