package search

import (
	"slices"
	"testing"

	"knots/api"
)

// wantModel looks whether a model has each variable, and makes all clauses true.
func wantModel(t *testing.T, variables int, clauses [][]int, model []int) {
	t.Helper()
	values := 0
	for i, lit := range model {
		if variableOf(lit) != i+1 {
			t.Fatalf("the model is %d", model)
		}
		if lit > 0 {
			values |= 1 << i
		}
	}
	if len(model) != variables {
		t.Fatalf("the model is %d", model)
	}
	for _, lits := range clauses {
		if !someTrue(lits, values) {
			t.Fatalf("%d is not true in %d", lits, model)
		}
	}
}

func TestRunOfRandomClauses(t *testing.T) {
	chance := newChance()
	seen := map[int]int{}
	for range 2000 {
		s, clauses := randomSearch(chance)
		variables := len(s.trail.facts) - 1
		var assumed []int
		for range chance.Intn(4) {
			assumed = append(assumed, randomLiteral(chance, variables))
		}
		result := s.Run(assumed, 0)
		seen[result.Kind]++
		if can := hasModel(variables, with(clauses, assumed...)); can != (result.Kind == api.Sat) {
			t.Fatalf("of %d, with %d: %+v", clauses, assumed, result)
		}
		if result.Kind == api.Sat {
			wantModel(t, variables, with(clauses, assumed...), result.Model)
		} else if hasModel(variables, with(clauses, result.Core...)) {
			t.Fatalf("of %d, with %d: %+v", clauses, assumed, result)
		}
	}
	if seen[api.Sat] < 300 || seen[api.Unsat] < 300 {
		t.Errorf("verdicts met: %d", seen)
	}
}

func TestConflictsAreCounted(t *testing.T) {
	chance := newChance()
	for range 500 {
		s, clauses := randomSearch(chance)
		count := 0
		if !drive(s, func() {}, func(place) { count++ }) {
			count++ // the one on level 0
		}
		result := searchOf(len(s.trail.facts)-1, clauses...).Run(nil, 0)
		if result.Conflicts != count {
			t.Fatalf("of %d: %+v, but there were %d conflicts", clauses, result, count)
		}
	}
}

// The core is what the search went through, not all that was assumed.
func TestCoreLeavesOutWhatHasNoPart(t *testing.T) {
	clauses := [][]int{{-1, 2}, {-2, -3, 4}, {-5, 6}}
	for _, c := range []struct{ assumed, core []int }{
		{[]int{5, 1, 6, 3, -4}, []int{1, 3, -4}},
		{[]int{-4, 5, 3, 1}, []int{-4, 3, 1}},
		{[]int{5, 3, -3, 1}, []int{3, -3}},
		{[]int{5, 5, -6, 5, -6}, []int{5, -6}},
	} {
		result := searchOf(6, clauses...).Run(c.assumed, 0)
		if result.Kind != api.Unsat || !slices.Equal(result.Core, c.core) {
			t.Errorf("with %d: %+v, not core %d", c.assumed, result, c.core)
		}
	}
}

func TestCoreOfWhatNeedsNoDecision(t *testing.T) {
	clauses := [][]int{{1}, {-1, 2}}
	if result := searchOf(3, clauses...).Run([]int{3, -2}, 0); !slices.Equal(result.Core, []int{-2}) {
		t.Errorf("%+v", result)
	}
	clauses = append(clauses, []int{-2})
	if result := searchOf(3, clauses...).Run([]int{3, -2}, 0); result.Kind != api.Unsat || len(result.Core) != 0 {
		t.Errorf("%+v", result)
	}
}
