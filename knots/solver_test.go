package knots_test

import (
	"math"
	"slices"
	"strings"
	"testing"

	"knots/api"
	"knots/knots"
)

// badLists has lists in which one number is no literal.
var badLists = [][]int{
	{0}, {13}, {-13}, {1, 2, 0}, {0, 1}, {1, -1, 13}, {math.MaxInt}, {math.MinInt}, {3, math.MinInt + 1},
	{1 << 32}, {1<<32 + 1}, {-1<<32 - 1}, {256 + 1}, {-24}, {24},
}

func solverOf(t *testing.T, clauses ...[]int) *knots.Solver {
	t.Helper()
	s := knots.New()
	for _, lits := range clauses {
		wantAdd(t, s, api.OK, lits...)
	}
	return s
}

func wantAdd(t *testing.T, s *knots.Solver, errno api.Errno, lits ...int) {
	t.Helper()
	if got := s.Add(lits...); got != errno {
		t.Errorf("P5: Add(%d) = %d, not %d", lits, got, errno)
	}
}

func wantClauses(t *testing.T, s *knots.Solver, text string) {
	t.Helper()
	if got := s.Clauses(); got != text {
		t.Errorf("P5: Clauses = %q, not %q", got, text)
	}
}

func TestANewSolverHasNoClauses(t *testing.T) {
	wantClauses(t, knots.New(), "")
	if result, errno := knots.New().Solve(nil, 0); errno != api.OK || result.Kind != api.Sat {
		t.Errorf("P6: %+v, %d", result, errno)
	}
}

func TestClausesAreKeptInPlainFormAndInOrder(t *testing.T) {
	s := solverOf(t, []int{2, -1, 2}, []int{12, -12 + 1}, nil, []int{-3}, []int{3, 1}, []int{1, 3}, []int{-10, 10 - 1})
	wantClauses(t, s, "-1 2\n-11 12\n\n-3\n1 3\n1 3\n9 -10\n")
	wantAdd(t, s, api.OK)
	wantClauses(t, s, "-1 2\n-11 12\n\n-3\n1 3\n1 3\n9 -10\n\n")
}

func TestClausesThatAreAlwaysTrueAreNotKept(t *testing.T) {
	s := solverOf(t, []int{1, -1}, []int{-12, 5, 12}, []int{4}, []int{4, 4, -4})
	wantClauses(t, s, "4\n")
}

func TestAddTakesLiteralsAlone(t *testing.T) {
	s := solverOf(t, []int{1, 2})
	for _, lits := range badLists {
		wantAdd(t, s, api.ErrLit, lits...)
		wantClauses(t, s, "1 2\n")
	}
}

// full has as many literals as may be kept, but for some.
func full(t *testing.T, but int) *knots.Solver {
	t.Helper()
	s := knots.New()
	for range api.MaxLits/10 - 1 {
		wantAdd(t, s, api.OK, 1, 2, 3, 4, 5, -6, 7, 8, -9, 10, 10)
	}
	wantAdd(t, s, api.OK, []int{1, 2, 3, 4, 5, 6, 7, 8, 9, 10}[but:]...)
	return s
}

func TestAddUpToTheBound(t *testing.T) {
	s := full(t, 3)
	before := s.Clauses()
	wantAdd(t, s, api.ErrFull, 1, 2, 3, 4)
	wantAdd(t, s, api.ErrLit, 1, 2, 3, 4, 5, 0)
	wantAdd(t, s, api.OK, 1, 2, 3, 4, -4)
	wantClauses(t, s, before)
	wantAdd(t, s, api.OK, -3, 2, 2, 1, 1, -3)
	wantClauses(t, s, before+"1 2 -3\n")
	wantAdd(t, s, api.ErrFull, 1)
	wantAdd(t, s, api.OK, 1, -1)
	wantAdd(t, s, api.OK)
	wantClauses(t, s, before+"1 2 -3\n\n")
}

func TestWhatIsNotKeptTakesNoRoom(t *testing.T) {
	s := full(t, 1)
	for range 5 {
		wantAdd(t, s, api.OK, 7, -7)
		wantAdd(t, s, api.ErrFull, 7, 8)
		wantAdd(t, s, api.ErrLit, 99)
		wantAdd(t, s, api.OK)
	}
	wantAdd(t, s, api.OK, 7)
	wantAdd(t, s, api.ErrFull, 7)
}

// More clauses of one literal than of ten can be kept, but not more literals.
func TestTheBoundIsOfLiterals(t *testing.T) {
	s := knots.New()
	for range api.MaxLits {
		wantAdd(t, s, api.OK, -12)
	}
	wantAdd(t, s, api.ErrFull, -12)
	wantClauses(t, s, strings.Repeat("-12\n", api.MaxLits))
}

func TestReset(t *testing.T) {
	s := full(t, 0)
	wantAdd(t, s, api.OK)
	if result, _ := s.Solve(nil, 0); result.Kind != api.Unsat {
		t.Errorf("P6: %+v", result)
	}
	s.Reset()
	wantClauses(t, s, "")
	if result, errno := s.Solve([]int{1, -2}, 0); errno != api.OK || result.Kind != api.Sat {
		t.Errorf("P5: behind Reset: %+v, %d", result, errno)
	}
	for range api.MaxLits {
		wantAdd(t, s, api.OK, 3)
	}
	wantAdd(t, s, api.ErrFull, 3)
	s.Reset()
	s.Reset()
	wantClauses(t, s, "")
}

// P2: what is handed in is neither written into nor kept.
func TestListsThatAreHandedIn(t *testing.T) {
	s := knots.New()
	room := []int{3, -2, 3, 9, 9}
	lits := room[:3]
	wantAdd(t, s, api.OK, lits...)
	wantAdd(t, s, api.OK, 2)
	s.Solve(lits, 0)
	s.Solve(lits, 1)
	if !slices.Equal(room, []int{3, -2, 3, 9, 9}) {
		t.Errorf("P2: what was handed in is %d", room)
	}
	room[0], room[1] = 5, 6
	wantClauses(t, s, "-2 3\n2\n")
	if result, _ := s.Solve([]int{-3}, 0); result.Kind != api.Unsat {
		t.Errorf("P2: %+v", result)
	}
}

// P2: what comes out is new memory, up to its capacity.
func TestListsThatComeOut(t *testing.T) {
	s := solverOf(t, []int{1, 2}, []int{-1, 2})
	spoil := func(lits []int) {
		for i := range lits[:cap(lits)] {
			lits[:cap(lits)][i] = 99
		}
	}
	for _, assumed := range [][]int{nil, {3, 4}, {3, 4, -2}, {3, -3}} {
		first, _ := s.Solve(assumed, 0)
		model, core := slices.Clone(first.Model), slices.Clone(first.Core)
		second, _ := s.Solve(assumed, 0)
		spoil(second.Model)
		spoil(second.Core)
		third, _ := s.Solve(assumed, 0)
		for _, result := range []api.Result{first, third} {
			if !slices.Equal(result.Model, model) || !slices.Equal(result.Core, core) {
				t.Errorf("P2: with %d: %+v, then %+v", assumed, first, third)
			}
		}
	}
	wantClauses(t, s, "1 2\n-1 2\n")
}

// P2: what one solver is told is nothing to another.
func TestSolversAreApart(t *testing.T) {
	a, b := solverOf(t, []int{1}), solverOf(t, []int{-1})
	wantAdd(t, a, api.OK, 2)
	wantClauses(t, a, "1\n2\n")
	wantClauses(t, b, "-1\n")
	a.Reset()
	wantClauses(t, b, "-1\n")
	if result, _ := b.Solve([]int{1}, 0); result.Kind != api.Unsat {
		t.Errorf("P2: %+v", result)
	}
	if result, _ := a.Solve([]int{1}, 0); result.Kind != api.Sat {
		t.Errorf("P2: %+v", result)
	}
}
