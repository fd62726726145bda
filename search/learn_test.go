package search

import (
	"slices"
	"testing"
)

// The decision is a point through which all goes, but 2 is nearer to the conflict.
func TestLessonOfTheFirstPoint(t *testing.T) {
	s := searchOf(9, []int{-1, 2}, []int{-2, -9, 3}, []int{-2, 4}, []int{-3, -4})
	for _, lit := range []int{8, 9, 1} {
		if at := s.propagate(); at != nowhere {
			t.Fatalf("a conflict ahead of %d", lit)
		}
		s.trail.decide(lit)
	}
	conflict := s.propagate()
	if conflict == nowhere {
		t.Fatal("no conflict")
	}
	if lits := s.lesson(conflict); !slices.Equal(lits, []int{-2, -9}) {
		t.Errorf("the lesson is %d", lits)
	}
	s.learn(conflict)
	if s.trail.level() != 2 || !slices.Equal(s.trail.order, []int{8, 9, -2}) {
		t.Errorf("behind it on level %d: %d", s.trail.level(), s.trail.order)
	}
}

// 1 and 8 have no part in the conflict: the walk ends at 2.
func TestAConflictCountsWhatItHangsOn(t *testing.T) {
	s := searchOf(9, []int{-1, 2}, []int{-2, -9, 3}, []int{-2, 4}, []int{-3, -4})
	for _, lit := range []int{8, 9, 1} {
		s.trail.decide(lit)
	}
	s.learn(s.propagate())
	if !slices.Equal(s.queue.counts, []int{0, 0, 1, 1, 1, 0, 0, 0, 0, 1}) || s.queue.conflicts != 1 {
		t.Errorf("counted is %d, behind %d conflicts", s.queue.counts, s.queue.conflicts)
	}
}

func TestLessonOfOneLiteralIsTrueOnLevel0(t *testing.T) {
	s := searchOf(3, []int{-1, 2}, []int{-1, -2})
	s.trail.decide(3)
	s.propagate()
	s.trail.decide(1)
	s.learn(s.propagate())
	if s.trail.level() != 0 || !slices.Equal(s.trail.order, []int{-1}) {
		t.Errorf("on level %d: %d", s.trail.level(), s.trail.order)
	}
}

func TestLessonLeavesOutWhatNeedsNoDecision(t *testing.T) {
	s := searchOf(3, []int{3}, []int{-1, 2, -3}, []int{-1, -2, -3})
	s.propagate()
	s.trail.decide(1)
	if lits := s.lesson(s.propagate()); !slices.Equal(lits, []int{-1}) {
		t.Errorf("the lesson is %d", lits)
	}
}

// behind gives all true literals from which a clause's being false comes, without
// going beyond stop, each of them as soon as it is met.
func behind(s *Search, at place, stop int, met []int) []int {
	for _, lit := range s.clauses.literals(at) {
		fact := s.trail.fact(lit)
		if fact.level == 0 || slices.Contains(met, fact.truth) {
			continue
		}
		met = append(met, fact.truth)
		if fact.level == s.trail.level() && fact.truth != stop && fact.reason != nowhere {
			met = behind(s, fact.reason, stop, met)
		}
	}
	return met
}

// lessonByRule tries each literal of the last level, the last one first: all
// goes through it, if no walk that stops there comes to the decision.
func lessonByRule(s *Search, conflict place) []int {
	start := s.trail.starts[s.trail.level()-1]
	decision := s.trail.order[start]
	for _, point := range slices.Backward(s.trail.order[start:]) {
		met := behind(s, conflict, point, nil)
		if !slices.Contains(met, point) || point != decision && slices.Contains(met, decision) {
			continue
		}
		lits := []int{-point}
		for _, lit := range met {
			if s.trail.fact(lit).level < s.trail.level() {
				lits = append(lits, -lit)
			}
		}
		return lits
	}
	return nil
}

func TestLessonsOfRandomSearches(t *testing.T) {
	chance := newChance()
	lessons, nearer := 0, 0
	for range 2000 {
		s, clauses := randomSearch(chance)
		variables := len(s.trail.facts) - 1
		drive(s, func() {}, func(conflict place) {
			want := lessonByRule(s, conflict)
			got := s.lesson(conflict)
			lessons++
			if s.trail.fact(got[0]).reason != nowhere {
				nearer++
			}
			if got[0] != want[0] || !sameSet(got, want) {
				t.Fatalf("the lesson of %d is %d, not %d", s.clauses.literals(conflict), got, want)
			}
			var opposites []int
			for _, lit := range got {
				opposites = append(opposites, -lit)
			}
			if hasModel(variables, with(clauses, opposites...)) {
				t.Fatalf("%d does not entail %d", clauses, got)
			}
		})
	}
	if lessons < 1000 || nearer < 100 {
		t.Errorf("only %d lessons, %d of them nearer than the decision", lessons, nearer)
	}
}

func sameSet(a, b []int) bool {
	return slices.Equal(slices.Sorted(slices.Values(a)), slices.Sorted(slices.Values(b)))
}

// A lesson goes back as far as it says something, not just one level.
func TestGoingBackGoesToTheSecondHighestLevel(t *testing.T) {
	chance := newChance()
	far := 0
	for range 2000 {
		s, _ := randomSearch(chance)
		drive(s, func() {}, func(conflict place) {
			lits := s.lesson(conflict)
			level := 0
			for _, lit := range lits[1:] {
				level = max(level, s.trail.fact(lit).level)
			}
			if got := s.putHighestSecond(lits); got != level || len(lits) > 1 && s.trail.fact(lits[1]).level != level {
				t.Fatalf("of %d the highest level is %d, not %d", lits, level, got)
			}
			if level < s.trail.level()-1 {
				far++
			}
		})
	}
	if far < 100 {
		t.Errorf("only %d lessons go far back", far)
	}
}
