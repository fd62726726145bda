package search

import (
	"slices"
	"testing"

	"knots/api"
)

func TestEachRoundIsLongerThanTheLast(t *testing.T) {
	r := newRounds()
	for number, length := range []int{4, 6, 9, 13, 19, 28} {
		for met := 1; met <= length; met++ {
			if over := r.over(); over != (met == length) {
				t.Errorf("round %d is over behind %d conflicts: %t", number, met, over)
			}
		}
		r.next()
	}
}

func TestAConflictMarksTheClausesThatHaveAPart(t *testing.T) {
	s := searchOf(9, []int{-1, 2}, []int{-2, -9, 3}, []int{-2, 4}, []int{-3, -4}, []int{-8, 7})
	s.learn(conflictOf(t, s, 8, 9, 1))
	// The first one is beyond the point, and the fifth is beside all; the last
	// one is learnt.
	for i, used := range []bool{false, true, true, true, false, true} {
		if at := places(s.clauses)[i]; s.clauses.isUsed(at) != used {
			t.Errorf("%d is of use: %t", s.clauses.literals(at), !used)
		}
	}
}

// learnt gives the clauses that lie behind the given ones.
func learnt(s *Search) [][]int {
	var all [][]int
	for _, at := range places(s.clauses) {
		if at >= s.given {
			all = append(all, slices.Clone(s.clauses.literals(at)))
		}
	}
	return all
}

func TestBeginAnew(t *testing.T) {
	given := [][]int{{1, 2, 3}, {-3, 4}, {-5, 6}}
	s := searchOf(8, given...)
	s.keep([]int{7, 8})
	s.keep([]int{3, -4, 5})
	used := s.keep([]int{7, -8, 1})
	s.clauses.use(used)
	s.force(s.keep([]int{6}))
	s.propagate()
	s.trail.decide(-5)
	s.trail.decide(-7)
	s.propagate()
	if !slices.Equal(s.trail.order, []int{6, -5, -7, 8, 1}) {
		t.Fatalf("true is %d", s.trail.order)
	}
	s.beginAnew()
	if s.trail.level() != 0 || !slices.Equal(s.trail.order, []int{6}) {
		t.Errorf("true is %d", s.trail.order)
	}
	wantLeft(t, s, []int{1, 7, -8}, []int{6})
	wantGone(t, s, []int{7, 8}, []int{3, -4, 5})
	for i, at := range places(s.clauses) {
		if i < len(given) && !sameSet(s.clauses.literals(at), given[i]) || s.clauses.isUsed(at) {
			t.Errorf("clause %d is %d, of use: %t", i, s.clauses.literals(at), s.clauses.isUsed(at))
		}
	}
	wantWatched(t, s)
	wantReasons(t, s)
	if s.rounds.length != 6 || s.rounds.met != 0 {
		t.Errorf("the next round is %+v", s.rounds)
	}
	s.beginAnew()
	wantLeft(t, s, []int{6})
	wantGone(t, s, []int{7, 8}, []int{3, -4, 5}, []int{1, 7, -8})
}

func wantLeft(t *testing.T, s *Search, clauses ...[]int) {
	t.Helper()
	if left := learnt(s); !slices.EqualFunc(left, clauses, sameSet) {
		t.Errorf("left is %d, not %d", left, clauses)
	}
}

func wantGone(t *testing.T, s *Search, clauses ...[]int) {
	t.Helper()
	goes := func(step Step, lits []int) bool { return step.Goes && sameSet(step.Lits, lits) }
	if !slices.EqualFunc(s.steps, clauses, goes) {
		t.Errorf("%v goes, not %d", s.steps, clauses)
	}
}

// What is true without a decision is so for a learnt clause that was of no other
// use: but without it, it would not follow any more.
func TestReasonsStay(t *testing.T) {
	s := searchOf(4, []int{-1})
	s.keep([]int{3, 4})
	s.force(s.keep([]int{2, 1}))
	for range 3 {
		s.beginAnew()
		wantLeft(t, s, []int{2, 1})
		if !s.trail.isForced(2, s.given) {
			t.Errorf("2 is true for what lies at %d", s.trail.fact(2).reason)
		}
	}
}

func TestForced(t *testing.T) {
	trail := newTrail(2)
	trail.take(-1, 0)
	if !trail.isForced(-1, 0) || trail.isForced(1, 0) || trail.isForced(-1, 3) || trail.isForced(2, 0) || trail.isForced(-2, 0) {
		t.Errorf("%+v", trail)
	}
}

func TestBeginningsOfHardSearches(t *testing.T) {
	chance := newChance()
	anew, gone, reasons := 0, 0, 0
	for range 300 {
		s, _ := hardSearch(chance)
		drive(s, func() {
			wantWatched(t, s)
			wantNothingMissed(t, s)
			wantReasons(t, s)
			for _, fact := range s.trail.facts[1:] {
				if fact.truth != 0 && fact.level == 0 && fact.reason >= s.given && !s.clauses.isUsed(fact.reason) {
					reasons++
				}
			}
		}, func(place) {})
		if s.rounds.length > firstRound {
			anew++
		}
		for _, step := range s.steps {
			if step.Goes {
				gone++
			}
		}
	}
	if anew < 150 || gone < 500 || reasons < 500 {
		t.Errorf("only %d searches begin anew, %d clauses go, %d times a reason stays that is of no other use", anew, gone, reasons)
	}
}

// followsByRule takes the opposites of literals to be true, and what comes of it.
func followsByRule(list [][]int, lits []int) bool {
	taken := opposites(lits)
	for _, lit := range lits {
		if slices.Contains(lits, -lit) {
			return true
		}
	}
	for grown := true; grown; {
		grown = false
		for _, clause := range list {
			left := slices.DeleteFunc(slices.Clone(clause), func(lit int) bool { return slices.Contains(taken, -lit) })
			if len(left) == 0 {
				return true
			}
			if len(left) == 1 && !slices.Contains(taken, left[0]) {
				taken = append(taken, left[0])
				grown = true
			}
		}
	}
	return false
}

// Each that is learnt follows, each that goes was learnt and is there; behind
// all steps there is just what lies in the store.
func TestStepsCanBeFollowed(t *testing.T) {
	chance := newChance()
	for range 200 {
		s, clauses := hardSearch(chance)
		var assumed []int
		for range chance.Intn(3) {
			assumed = append(assumed, randomLiteral(chance, len(s.trail.facts)-1))
		}
		result := s.Run(assumed, chance.Intn(2)*chance.Intn(30))
		list := slices.Clone(clauses)
		for _, step := range s.Steps() {
			if step.Goes {
				at := slices.IndexFunc(list[len(clauses):], func(lits []int) bool { return sameSet(lits, step.Lits) })
				if at < 0 {
					t.Fatalf("%d goes, but is not there", step.Lits)
				}
				list = slices.Delete(list, len(clauses)+at, len(clauses)+at+1)
				continue
			}
			if len(step.Lits) == 0 || !followsByRule(list, step.Lits) {
				t.Fatalf("%d does not follow from %d", step.Lits, list)
			}
			list = append(list, step.Lits)
		}
		if result.Kind == api.Unsat && !followsByRule(list, opposites(result.Core)) {
			t.Fatalf("that not all of %d are true does not follow from %d", result.Core, list)
		}
		if !slices.EqualFunc(list[len(clauses):], learnt(s), sameSet) {
			t.Fatalf("%d lies in the store, not %d", learnt(s), list[len(clauses):])
		}
	}
}

// A search whose budget is used up does not begin anew, though the round is over.
func TestNothingGoesBehindTheLastConflict(t *testing.T) {
	chance := newChance()
	for range 100 {
		s, _ := hardSearch(chance)
		result := s.Run(nil, 10)
		if result.Kind == api.Unknown && (s.rounds.length != 6 || s.steps[len(s.steps)-1].Goes) {
			t.Fatalf("behind %d conflicts comes round %+v, and the steps are %v", result.Conflicts, s.rounds, s.steps)
		}
	}
}
