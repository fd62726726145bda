package knots_test

import (
	"math"
	"math/rand"
	"reflect"
	"slices"
	"sync"
	"testing"

	"knots/api"
	"knots/knots"
)

// worlds tells which values of all variables are in a set of such.
type worlds [1 << api.MaxVar]bool

// worldsOf gives all values in which all clauses are true.
func worldsOf(clauses [][]int) *worlds {
	var all worlds
	for values := range all {
		all[values] = true
		for _, lits := range clauses {
			all[values] = all[values] && slices.ContainsFunc(lits, func(lit int) bool { return holds(lit, values) })
		}
	}
	return &all
}

func holds(lit, values int) bool {
	return lit > 0 == (values>>(max(lit, -lit)-1)&1 == 1)
}

// any tells whether there are values in which all literals are true too.
func (w *worlds) any(lits []int) bool {
	for values, in := range w {
		if in && !slices.ContainsFunc(lits, func(lit int) bool { return !holds(lit, values) }) {
			return true
		}
	}
	return false
}

// valuesOf gives the values that a model tells; false, if it is none.
func valuesOf(model []int) (int, bool) {
	values := 0
	for i, lit := range model {
		if max(lit, -lit) != i+1 {
			return 0, false
		}
		if lit > 0 {
			values |= 1 << i
		}
	}
	return values, len(model) == api.MaxVar
}

// wantSolve looks whether an answer is one that P6 allows, and whether the proof
// grew as P7 says.
func wantSolve(t *testing.T, s *knots.Solver, w *worlds, assumed []int, budget int) api.Result {
	t.Helper()
	before := s.Proof()
	result, errno := s.Solve(assumed, budget)
	if errno != api.OK || !allowed(result, w, assumed, budget) {
		t.Fatalf("P6: of %q with %d and budget %d: %+v, %d", s.Clauses(), assumed, budget, result, errno)
	}
	wantGrown(t, s, before, result)
	return result
}

func allowed(result api.Result, w *worlds, assumed []int, budget int) bool {
	if result.Conflicts < 0 || budget > 0 && result.Conflicts > budget {
		return false
	}
	switch result.Kind {
	case api.Sat:
		values, ok := valuesOf(result.Model)
		isFalse := func(lit int) bool { return !holds(lit, values) }
		return ok && w[values] && !slices.ContainsFunc(assumed, isFalse) && len(result.Core) == 0
	case api.Unsat:
		return len(result.Model) == 0 && isSomeOf(result.Core, assumed) && !w.any(result.Core)
	case api.Unknown:
		return budget > 0 && result.Conflicts == budget && len(result.Model) == 0 && len(result.Core) == 0
	}
	return false
}

// isSomeOf tells whether a core is made of what is assumed, each once, in the
// order in which it was assumed first.
func isSomeOf(core, assumed []int) bool {
	last := -1
	for _, lit := range core {
		first := slices.Index(assumed, lit)
		if first <= last {
			return false
		}
		last = first
	}
	return true
}

func TestSolveOfTheExamples(t *testing.T) {
	clauses := [][]int{{1, 2}, {-1, 2}}
	s, w := solverOf(t, clauses...), worldsOf(clauses)
	if result := wantSolve(t, s, w, nil, 0); result.Kind != api.Sat || result.Model[1] != 2 {
		t.Errorf("P6: %+v", result)
	}
	if result := wantSolve(t, s, w, []int{3, -2}, 0); result.Kind != api.Unsat || !slices.Contains(result.Core, -2) {
		t.Errorf("P6: %+v", result)
	}
	if result := wantSolve(t, s, w, []int{1, -1}, 0); result.Kind != api.Unsat || !slices.Equal(result.Core, []int{1, -1}) {
		t.Errorf("P6: %+v", result)
	}
	wantAdd(t, s, api.OK)
	for _, assumed := range [][]int{nil, {}, {1}, {-2, 3}, {1, -1}} {
		for _, budget := range []int{0, 1, math.MaxInt} {
			if result := wantSolve(t, s, &worlds{}, assumed, budget); result.Kind != api.Unsat || len(result.Core) != 0 {
				t.Errorf("P6: with the clause without literals: %+v", result)
			}
		}
	}
}

func TestSolveRefuses(t *testing.T) {
	s := solverOf(t, []int{1, 2}, []int{-1, 2})
	want := func(assumed []int, budget int, errno api.Errno) {
		t.Helper()
		before := s.Clauses()
		result, got := s.Solve(assumed, budget)
		if got != errno || !reflect.DeepEqual(result, api.Result{}) || s.Clauses() != before {
			t.Errorf("P1, P6: Solve(%d, %d) = %+v, %d, not %d", assumed, budget, result, got, errno)
		}
	}
	for _, assumed := range badLists {
		for _, budget := range []int{0, 5, -1, math.MinInt, math.MaxInt} {
			want(assumed, budget, api.ErrLit)
		}
	}
	for _, assumed := range [][]int{nil, {}, {1, -1}, {12, -12, 3}} {
		want(assumed, -1, api.ErrRange)
		want(assumed, math.MinInt, api.ErrRange)
	}
	wantAdd(t, s, api.OK)
	want([]int{0}, -1, api.ErrLit)
	want(nil, -1, api.ErrRange)
}

// smallClauses has all clauses of two variables that are not always true.
var smallClauses = [][]int{{}, {1}, {-1}, {2}, {-2}, {1, 2}, {1, -2}, {-1, 2}, {-1, -2}}

func eachSmallSet(see func(clauses [][]int)) {
	for set := range 1 << len(smallClauses) {
		var clauses [][]int
		for i, lits := range smallClauses {
			if set>>i&1 == 1 {
				clauses = append(clauses, lits)
			}
		}
		see(clauses)
	}
}

// Each set of the clauses of two variables, with each list of up to three
// assumed literals.
func TestSolveOfAllSmallInputs(t *testing.T) {
	lists := [][]int{nil}
	for from := 0; len(lists[from]) < 3; from++ {
		for _, lit := range []int{1, -1, 2, -2} {
			lists = append(lists, append(slices.Clone(lists[from]), lit))
		}
	}
	eachSmallSet(func(clauses [][]int) {
		s, w := solverOf(t, clauses...), worldsOf(clauses)
		for _, assumed := range lists {
			wantSolve(t, s, w, assumed, 0)
			wantSolve(t, s, w, assumed, 1)
		}
	})
}

// randomClause makes a clause, most often of three to five variables, so that
// there is something to search for; else any literals, any number of times.
func randomClause(chance *rand.Rand, variables int) []int {
	lits := chance.Perm(variables)[:min(variables, 3+chance.Intn(3))]
	if chance.Intn(20) == 0 {
		lits = make([]int, 1+chance.Intn(6))
		for i := range lits {
			lits[i] = chance.Intn(variables)
		}
	}
	for i := range lits {
		lits[i]++
		if chance.Intn(2) == 0 {
			lits[i] = -lits[i]
		}
	}
	return lits
}

func randomAssumed(chance *rand.Rand, variables int) []int {
	var all []int
	for range chance.Intn(5) {
		all = append(all, randomClause(chance, variables)[0])
	}
	return all
}

// Clauses come bit by bit, and questions are asked in between.
func TestSolveOfRandomClauses(t *testing.T) {
	chance := newChance()
	seen := map[int]int{}
	most := 0
	for range 150 {
		variables := 1 + chance.Intn(api.MaxVar)
		s, clauses := knots.New(), [][]int(nil)
		for range 6 {
			for range chance.Intn(3 * variables) {
				lits := randomClause(chance, variables)
				if s.Add(lits...) == api.OK {
					clauses = append(clauses, lits)
				}
			}
			w := worldsOf(clauses)
			for range 5 {
				result := wantSolve(t, s, w, randomAssumed(chance, variables), chance.Intn(2)*chance.Intn(6))
				seen[result.Kind]++
				most = max(most, result.Conflicts)
			}
		}
	}
	for _, kind := range []int{api.Sat, api.Unsat, api.Unknown} {
		if seen[kind] < 50 {
			t.Errorf("verdicts met: %d", seen)
		}
	}
	if most < 8 {
		t.Errorf("no search ran into more than %d conflicts", most)
	}
}

// pigeons are four that want a hole each, of three.
func pigeons() [][]int {
	var all [][]int
	in := func(pigeon, hole int) int { return 3*pigeon + hole + 1 }
	for pigeon := range 4 {
		all = append(all, []int{in(pigeon, 0), in(pigeon, 1), in(pigeon, 2)})
		for other := range pigeon {
			for hole := range 3 {
				all = append(all, []int{-in(other, hole), -in(pigeon, hole)})
			}
		}
	}
	return all
}

func TestBudgets(t *testing.T) {
	s, w := solverOf(t, pigeons()...), worldsOf(pigeons())
	whole := wantSolve(t, s, w, nil, 0)
	if whole.Kind != api.Unsat || len(whole.Core) != 0 || whole.Conflicts < 3 {
		t.Fatalf("P6: %+v", whole)
	}
	unknown := 0
	for budget := 1; budget <= whole.Conflicts+3; budget++ {
		if wantSolve(t, s, w, nil, budget).Kind == api.Unknown {
			unknown++
		}
		wantSolve(t, s, w, []int{5, 1, -9}, budget)
	}
	if unknown == 0 {
		t.Error("P6: no budget was too small for what needs more conflicts")
	}
	for _, budget := range []int{1000000, math.MaxInt} {
		if result := wantSolve(t, s, w, nil, budget); result.Kind != api.Unsat {
			t.Errorf("P6: with budget %d: %+v", budget, result)
		}
	}
}

// What a question is answered hangs on the clauses and the question alone.
func TestQuestionsBeforeAreNothingToTheAnswer(t *testing.T) {
	chance := newChance()
	for range 100 {
		variables := 6 + chance.Intn(api.MaxVar-5)
		asked, fresh := knots.New(), knots.New()
		for range 4 * variables {
			lits := randomClause(chance, variables)
			asked.Add(lits...)
			fresh.Add(lits...)
			if chance.Intn(3) == 0 {
				asked.Solve(randomAssumed(chance, variables), chance.Intn(3))
			}
		}
		assumed, budget := randomAssumed(chance, variables), chance.Intn(4)
		a, _ := asked.Solve(assumed, budget)
		b, _ := fresh.Solve(assumed, budget)
		if !reflect.DeepEqual(a, b) {
			t.Fatalf("of %q with %d: %+v, and %+v", fresh.Clauses(), assumed, a, b)
		}
	}
}

func TestManyAssumed(t *testing.T) {
	clauses := [][]int{{-1, -2, -3, 4}}
	s, w := solverOf(t, clauses...), worldsOf(clauses)
	long := slices.Repeat([]int{3, 5, 2, 1, -6, 5}, 100000)
	if result := wantSolve(t, s, w, long, 0); result.Kind != api.Sat {
		t.Errorf("P6: %+v", result)
	}
	if result := wantSolve(t, s, w, append(long, -4, -4), 0); result.Kind != api.Unsat {
		t.Errorf("P6: %+v", result)
	}
	var all []int
	for variable := 1; variable <= api.MaxVar; variable++ {
		all = append(all, -variable)
	}
	if result := wantSolve(t, s, w, all, 0); !slices.Equal(result.Model, all) {
		t.Errorf("P6: %+v", result)
	}
	wantSolve(t, s, w, append(all, 12, 1), 0)
}

// P2: many solvers at a time answer as one alone does.
func TestSolversAtATime(t *testing.T) {
	want, _ := solverOf(t, pigeons()...).Solve([]int{5, 1}, 0)
	var all sync.WaitGroup
	for range 8 {
		all.Go(func() {
			for range 20 {
				if got, _ := solverOf(t, pigeons()...).Solve([]int{5, 1}, 0); !reflect.DeepEqual(got, want) {
					t.Errorf("P2: %+v, not %+v", got, want)
				}
			}
		})
	}
	all.Wait()
}
