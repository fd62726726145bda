package knots_test

import (
	"math"
	"math/rand"
	"slices"
	"strings"
	"testing"

	"knots/api"
	"knots/knots"
)

func wantProof(t *testing.T, s *knots.Solver, proof string) {
	t.Helper()
	if got := s.Proof(); got != proof {
		t.Errorf("P7: Proof = %q, not %q", got, proof)
	}
}

// lastLine gives the last line of a proof, in plain form; false, if there is none
// or it adds no clause.
func lastLine(proof string) (string, bool) {
	inner, ended := strings.CutSuffix(proof, "\n")
	line := inner[strings.LastIndex(inner, "\n")+1:]
	return lineOf(numbersOf(line)), ended && !strings.HasPrefix(line, "d")
}

// wantGrown looks whether a proof grew by whole steps, and, behind Unsat, ends
// with the clause that P7 says.
func wantGrown(t *testing.T, s *knots.Solver, before string, result api.Result) {
	t.Helper()
	proof := s.Proof()
	if !strings.HasPrefix(proof, before) || proof != "" && !strings.HasSuffix(proof, "\n") {
		t.Fatalf("P7: of %q the proof is %q, behind %q", s.Clauses(), proof, before)
	}
	if result.Kind != api.Unsat {
		return
	}
	var opposites []int
	for _, lit := range result.Core {
		opposites = append(opposites, -lit)
	}
	last, adds := lastLine(proof)
	if !adds || len(proof) == len(before) || last != lineOf(numbersOf(lineOf(opposites))) {
		t.Fatalf("P7: the core is %d, and the proof %q, behind %q", result.Core, proof, before)
	}
}

// wantAccepted looks whether Check accepts the whole proof, if it can read it.
func wantAccepted(t *testing.T, s *knots.Solver) {
	t.Helper()
	clauses, proof := s.Clauses(), s.Proof()
	if len(proof) > api.MaxText {
		return
	}
	if errno, step := knots.Check(clauses, proof); errno != api.OK {
		t.Fatalf("P7: Check(%q, %q) = %d, %d", clauses, proof, errno, step)
	}
}

func TestProofOfTheExamples(t *testing.T) {
	s := knots.New()
	wantProof(t, s, "")
	clauses := [][]int{{1, 2}, {-1, 2}}
	for _, lits := range clauses {
		wantAdd(t, s, api.OK, lits...)
	}
	wantProof(t, s, "")
	w := worldsOf(clauses)
	wantLast := func(assumed []int, lines ...string) {
		t.Helper()
		wantSolve(t, s, w, assumed, 0)
		wantAccepted(t, s)
		last, adds := lastLine(s.Proof())
		if !adds || !slices.Contains(lines, last) {
			t.Errorf("P7: with %d the proof is %q", assumed, s.Proof())
		}
	}
	wantSolve(t, s, w, nil, 0)
	wantAccepted(t, s)
	wantLast([]int{3, -2}, "2\n", "2 -3\n")
	wantLast([]int{1, -1}, "1 -1\n")
	wantLast([]int{-2}, "2\n")
	wantAdd(t, s, api.OK)
	w = &worlds{}
	for _, assumed := range [][]int{nil, {7}, {1, -1}, {-2}} {
		wantLast(assumed, "\n")
	}
}

func TestOnlySolveLetsTheProofGrow(t *testing.T) {
	s := solverOf(t, pigeons()...)
	s.Solve([]int{1}, 3)
	s.Solve(nil, 0)
	proof := s.Proof()
	if len(proof) < 10 {
		t.Fatalf("P7: the proof is %q", proof)
	}
	wantAdd(t, s, api.OK, 1, 2)
	wantAdd(t, s, api.OK, 1, -1)
	wantAdd(t, s, api.OK)
	wantAdd(t, s, api.ErrLit, 0)
	wantAdd(t, s, api.ErrLit, 1, 13)
	for s.Add(1, 2, 3, 4, 5, 6, 7, 8, 9, 10, 11, 12) == api.OK {
		continue
	}
	s.Clauses()
	s.Proof()
	knots.Check(s.Clauses(), s.Proof())
	knots.Plain(s.Clauses())
	wantProof(t, s, proof)
	for _, assumed := range badLists {
		s.Solve(assumed, 0)
		s.Solve(assumed, -1)
	}
	s.Solve(nil, -1)
	s.Solve([]int{1}, math.MinInt)
	wantProof(t, s, proof)
	wantAccepted(t, s)
}

func TestResetTakesTheProofAway(t *testing.T) {
	ask := func(s *knots.Solver) string {
		for _, lits := range pigeons() {
			wantAdd(t, s, api.OK, lits...)
		}
		s.Solve([]int{3, -2}, 2)
		s.Solve(nil, 0)
		return s.Proof()
	}
	s := knots.New()
	proof := ask(s)
	s.Reset()
	wantProof(t, s, "")
	s.Reset()
	wantProof(t, s, "")
	if again := ask(s); again != proof {
		t.Errorf("P5, P7: behind Reset the proof is %q, not %q", again, proof)
	}
	wantAccepted(t, s)
}

// P2: the proof of one is nothing to another, and what was told stays as it is.
func TestProofsAreApart(t *testing.T) {
	a, b := solverOf(t, pigeons()...), solverOf(t, pigeons()...)
	a.Solve(nil, 4)
	early := a.Proof()
	kept := strings.Clone(early)
	wantProof(t, b, "")
	b.Solve([]int{1}, 0)
	proof := b.Proof()
	for range 5 {
		a.Solve([]int{2}, 0)
	}
	wantProof(t, b, proof)
	a.Reset()
	a.Solve([]int{1, -1}, 0)
	wantProof(t, b, proof)
	if early != kept || early == "" {
		t.Errorf("P2: what was told as %q is %q", kept, early)
	}
}

// Four pigeons can not be followed into three holes without what was learnt.
func TestTheProofNeedsWhatWasLearnt(t *testing.T) {
	s := solverOf(t, pigeons()...)
	result := wantSolve(t, s, worldsOf(pigeons()), nil, 0)
	wantAccepted(t, s)
	errno, step := knots.Check(s.Clauses(), "\n")
	if result.Kind != api.Unsat || errno != api.ErrStep || step != 1 {
		t.Errorf("P4: Check of the last step alone = %d, %d", errno, step)
	}
}

// Each set of the clauses of two variables, with each list of assumed literals:
// each question asked of a solver of its own, and all of them of one.
func TestProofsOfAllSmallInputs(t *testing.T) {
	lists := [][]int{nil, {1}, {-1}, {2}, {-2}, {1, 2}, {1, -2}, {-1, 2}, {-1, -2}, {1, -1}, {-2, 2}, {2, 1, -2}, {-1, 2, 1}}
	eachSmallSet(func(clauses [][]int) {
		w, all := worldsOf(clauses), solverOf(t, clauses...)
		for _, assumed := range lists {
			one := solverOf(t, clauses...)
			wantSolve(t, one, w, assumed, 0)
			wantAccepted(t, one)
			wantSolve(t, all, w, assumed, 0)
		}
		wantAccepted(t, all)
	})
}

// follower follows a proof of any length, bit by bit, and tells of each clause
// that is added whether it is true in all models.
type follower struct {
	times map[string]int // how often each clause is in the list
	steps int
	gone  int
}

// take takes the steps that came, with the clauses that were kept when they did.
func (f *follower) take(t *testing.T, steps string, w *worlds) {
	t.Helper()
	for line := range strings.Lines(steps) {
		f.steps++
		if !clauseLine.MatchString(line) && !goingStep.MatchString(line) {
			t.Fatalf("P7: %q is no step", line)
		}
		words, goes := strings.CutPrefix(line, "d ")
		c := lineOf(numbersOf(words))
		if goes {
			f.gone++
			f.times[c]--
			if f.times[c] < 0 {
				t.Fatalf("P7: %q goes, but is not there", c)
			}
			continue
		}
		if !followsByRule(f.list(), c) {
			t.Fatalf("P7: %q does not follow from %q", c, f.list())
		}
		if w.anyFalse(numbersOf(c)) {
			t.Fatalf("P8: %q is added, but is not true in all models", c)
		}
		f.times[c]++
	}
}

func (f *follower) list() []string {
	var list []string
	for c, times := range f.times {
		if times > 0 {
			list = append(list, c)
		}
	}
	return list
}

// anyFalse tells whether there are values in which all literals are false.
func (w *worlds) anyFalse(lits []int) bool {
	for values, in := range w {
		if in && !slices.ContainsFunc(lits, func(lit int) bool { return holds(lit, values) }) {
			return true
		}
	}
	return false
}

// followed is a solver whose proof is followed as it grows.
type followed struct {
	*knots.Solver
	follower
	clauses [][]int
}

func newFollowed() *followed {
	return &followed{Solver: knots.New(), follower: follower{times: map[string]int{}}}
}

// add adds a clause; false, if there is no more room.
func (f *followed) add(lits []int) bool {
	before := f.Clauses()
	if f.Add(lits...) != api.OK {
		return false
	}
	if f.Clauses() != before {
		f.clauses = append(f.clauses, lits)
		f.times[lineOf(numbersOf(lineOf(lits)))]++
	}
	return true
}

// ask asks a question. What is written down then must follow from what is kept
// then; more clauses can not take that back.
func (f *followed) ask(t *testing.T, w *worlds, assumed []int, budget int) {
	t.Helper()
	before := f.Proof()
	wantSolve(t, f.Solver, w, assumed, budget)
	f.take(t, f.Proof()[len(before):], w)
	wantAccepted(t, f.Solver)
}

// Clauses come bit by bit, and questions are asked in between.
func TestProofsOfRandomClauses(t *testing.T) {
	chance := newChance()
	steps := 0
	for range 60 {
		variables := 4 + chance.Intn(api.MaxVar-3)
		f := newFollowed()
		for range 8 {
			for range variables + chance.Intn(variables) {
				f.add(randomClause(chance, variables))
			}
			w := worldsOf(f.clauses)
			for range 4 {
				f.ask(t, w, randomAssumed(chance, variables), chance.Intn(2)*chance.Intn(12))
			}
		}
		steps += f.steps
	}
	if steps < 2000 {
		t.Errorf("only %d steps are written", steps)
	}
}

// fourOf makes a clause of four variables: of such ones the searches are longest.
func fourOf(chance *rand.Rand) []int {
	lits := chance.Perm(api.MaxVar)[:4]
	for i := range lits {
		lits[i]++
		if chance.Intn(2) == 0 {
			lits[i] = -lits[i]
		}
	}
	return lits
}

// As many clauses as can be kept, so that searches are long: they begin anew, and
// what was learnt goes.
func TestProofsOfLongSearches(t *testing.T) {
	chance := newChance()
	gone := 0
	for range 60 {
		f := newFollowed()
		for f.add(fourOf(chance)) {
			continue
		}
		w := worldsOf(f.clauses)
		f.ask(t, w, nil, 0)
		f.ask(t, w, randomAssumed(chance, api.MaxVar), 0)
		gone += f.gone
	}
	if gone < 50 {
		t.Errorf("only %d steps let a clause go", gone)
	}
}

// A proof that is longer than Check reads can be followed all the same.
func TestAProofOfAnyLength(t *testing.T) {
	chance := newChance()
	f := newFollowed()
	for f.add(fourOf(chance)) {
		continue
	}
	w := worldsOf(f.clauses)
	for len(f.Proof()) <= 4*api.MaxText {
		before := len(f.Proof())
		for range 10 {
			f.ask(t, w, randomAssumed(chance, api.MaxVar), chance.Intn(2)*chance.Intn(20))
		}
		if len(f.Proof()) == before {
			t.Fatal("P7: ten questions let the proof not grow")
		}
	}
	if errno, step := knots.Check(f.Clauses(), f.Proof()); errno != api.ErrLong || step != 0 {
		t.Errorf("P4: Check of a proof of %d bytes = %d, %d", len(f.Proof()), errno, step)
	}
}
