package search

import (
	"slices"
	"testing"
)

// The decision is a point through which all goes, but 2 is nearer to the conflict.
func TestLessonOfTheFirstPoint(t *testing.T) {
	s := searchOf(9, []int{-1, 2}, []int{-2, -9, 3}, []int{-2, 4}, []int{-3, -4})
	conflict := conflictOf(t, s, 8, 9, 1)
	if lits := s.lesson(conflict); !slices.Equal(lits, []int{-2, -9}) {
		t.Errorf("the lesson is %d", lits)
	}
	s.learn(conflict)
	if s.trail.level() != 2 || !slices.Equal(s.trail.order, []int{8, 9, -2}) {
		t.Errorf("behind it on level %d: %d", s.trail.level(), s.trail.order)
	}
}

// 1 and 8 have no part in the conflict: the walk ends at 2.
func TestAConflictCountsWhatItHangsOn(t *testing.T) {
	s := searchOf(9, []int{-1, 2}, []int{-2, -9, 3}, []int{-2, 4}, []int{-3, -4})
	s.learn(conflictOf(t, s, 8, 9, 1))
	if !slices.Equal(s.queue.counts, []int{0, 0, 1, 1, 1, 0, 0, 0, 0, 1}) || s.queue.conflicts != 1 {
		t.Errorf("counted is %d, behind %d conflicts", s.queue.counts, s.queue.conflicts)
	}
}

func TestLessonOfOneLiteralIsTrueOnLevel0(t *testing.T) {
	s := searchOf(3, []int{-1, 2}, []int{-1, -2})
	s.learn(conflictOf(t, s, 3, 1))
	if s.trail.level() != 0 || !slices.Equal(s.trail.order, []int{-1}) {
		t.Errorf("on level %d: %d", s.trail.level(), s.trail.order)
	}
}

func TestLessonLeavesOutWhatNeedsNoDecision(t *testing.T) {
	s := searchOf(3, []int{3}, []int{-1, 2, -3}, []int{-1, -2, -3})
	if lits := s.lesson(conflictOf(t, s, 1)); !slices.Equal(lits, []int{-1}) {
		t.Errorf("the lesson is %d", lits)
	}
}

// behind gives all true literals from which a clause's being false comes, without
// going beyond stop, each of them as soon as it is met.
func behind(s *Search, at place, stop int, met []int) []int {
	for _, lit := range s.clauses.literals(at) {
		fact := s.trail.fact(lit)
		if fact.level == 0 || slices.Contains(met, fact.truth) {
			continue
		}
		met = append(met, fact.truth)
		if fact.level == s.trail.level() && fact.truth != stop && fact.reason != nowhere {
			met = behind(s, fact.reason, stop, met)
		}
	}
	return met
}

// lessonByRule tries each literal of the last level, the last one first: all
// goes through it, if no walk that stops there comes to the decision.
func lessonByRule(s *Search, conflict place) []int {
	start := s.trail.starts[s.trail.level()-1]
	decision := s.trail.order[start]
	for _, point := range slices.Backward(s.trail.order[start:]) {
		met := behind(s, conflict, point, nil)
		if !slices.Contains(met, point) || point != decision && slices.Contains(met, decision) {
			continue
		}
		lits := []int{-point}
		for _, lit := range met {
			if s.trail.fact(lit).level < s.trail.level() {
				lits = append(lits, -lit)
			}
		}
		return lits
	}
	return nil
}

func TestLessonsOfRandomSearches(t *testing.T) {
	chance := newChance()
	lessons, nearer := 0, 0
	for range 2000 {
		s, clauses := randomSearch(chance)
		variables := len(s.trail.facts) - 1
		drive(s, func() {}, func(conflict place) {
			want := lessonByRule(s, conflict)
			got := s.lesson(conflict)
			lessons++
			if s.trail.fact(got[0]).reason != nowhere {
				nearer++
			}
			if got[0] != want[0] || !sameSet(got, want) {
				t.Fatalf("the lesson of %d is %d, not %d", s.clauses.literals(conflict), got, want)
			}
			if hasModel(variables, with(clauses, opposites(got)...)) {
				t.Fatalf("%d does not entail %d", clauses, got)
			}
		})
	}
	if lessons < 1000 || nearer < 100 {
		t.Errorf("only %d lessons, %d of them nearer than the decision", lessons, nearer)
	}
}

func sameSet(a, b []int) bool {
	return slices.Equal(slices.Sorted(slices.Values(a)), slices.Sorted(slices.Values(b)))
}

// A lesson goes back as far as it says something, not just one level.
func TestGoingBackGoesToTheSecondHighestLevel(t *testing.T) {
	chance := newChance()
	far := 0
	for range 2000 {
		s, _ := randomSearch(chance)
		drive(s, func() {}, func(conflict place) {
			lits := s.lesson(conflict)
			level := 0
			for _, lit := range lits[1:] {
				level = max(level, s.trail.fact(lit).level)
			}
			if got := s.putHighestSecond(lits); got != level || len(lits) > 1 && s.trail.fact(lits[1]).level != level {
				t.Fatalf("of %d the highest level is %d, not %d", lits, level, got)
			}
			if level < s.trail.level()-1 {
				far++
			}
		})
	}
	if far < 100 {
		t.Errorf("only %d lessons go far back", far)
	}
}

// conflictOf decides literals one after the other, up to a conflict.
func conflictOf(t *testing.T, s *Search, decisions ...int) place {
	t.Helper()
	for _, lit := range decisions {
		if at := s.conflict(); at != nowhere {
			t.Fatalf("a conflict ahead of %d", lit)
		}
		s.trail.decide(lit)
	}
	conflict := s.conflict()
	if conflict == nowhere {
		t.Fatal("no conflict")
	}
	return conflict
}

func TestLessonsAreShortened(t *testing.T) {
	for _, c := range []struct {
		name        string
		clauses     [][]int
		long, short []int
	}{
		{"2 comes of 1", [][]int{{-1, 2}, {-3, -1, 4}, {-3, -2, -4}}, []int{-3, -2, -1}, []int{-3, -1}},
		{"2 comes of 5, and that of 1", [][]int{{-1, 5}, {-5, 2}, {-3, -1, 4}, {-3, -2, -4}}, []int{-3, -2, -1}, []int{-3, -1}},
		{"2 comes of 1 and 9 alike", [][]int{{9}, {-1, -9, 2}, {-3, -1, 4}, {-3, -2, -4}}, []int{-3, -2, -1}, []int{-3, -1}},
		{"2 comes of 1 and 8 alike", [][]int{{-1, -8, 2}, {-3, -1, 4}, {-3, -2, -4}}, []int{-3, -2, -1}, []int{-3, -2, -1}},
		{"5 comes of 8, and 2 of 1 and 5", [][]int{{-8, 5}, {-1, -5, 2}, {-3, -1, 4}, {-3, -2, -4}}, []int{-3, -2, -1}, []int{-3, -2, -1}},
		{"2 comes of 8, which is there", [][]int{{-8, 2}, {-3, -8, -1, 4}, {-3, -2, -4}}, []int{-3, -2, -8, -1}, []int{-3, -8, -1}},
	} {
		s := searchOf(9, c.clauses...)
		conflict := conflictOf(t, s, 8, 1, 3)
		lits := s.lesson(conflict)
		if !sameSet(lits, c.long) || lits[0] != -3 {
			t.Errorf("%s: the lesson is %d", c.name, lits)
		}
		if short := s.shorten(lits); !sameSet(short, c.short) || short[0] != -3 {
			t.Errorf("%s: shortened it is %d", c.name, short)
		}
		s.learn(conflict)
		if !sameSet(s.clauses.literals(s.given), c.short) || len(s.steps) != 1 || s.steps[0].Goes || !sameSet(s.steps[0].Lits, c.short) {
			t.Errorf("%s: learnt is %d, and told %v", c.name, s.clauses.literals(s.given), s.steps)
		}
	}
}

// comesByRule tells whether a literal that is false is so for what stands in a
// lesson, and for what needs no decision.
func comesByRule(s *Search, lit int, lesson []int) bool {
	fact := s.trail.fact(lit)
	if fact.level == 0 {
		return true
	}
	return fact.reason != nowhere && !slices.ContainsFunc(s.clauses.literals(fact.reason), func(other int) bool {
		return other != -lit && !slices.Contains(lesson, other) && !comesByRule(s, other, lesson)
	})
}

func TestShortLessonsOfRandomSearches(t *testing.T) {
	chance := newChance()
	shortened := 0
	for range 2000 {
		s, clauses := randomSearch(chance)
		variables := len(s.trail.facts) - 1
		drive(s, func() {}, func(conflict place) {
			lits := s.lesson(conflict)
			want := lits[:1:1]
			for _, lit := range lits[1:] {
				if !comesByRule(s, lit, lits) {
					want = append(want, lit)
				}
			}
			if len(want) < len(lits) {
				shortened++
			}
			long := slices.Clone(lits)
			got := s.shorten(lits)
			if !slices.Equal(got, want) {
				t.Fatalf("the lesson %d is shortened to %d, not %d", long, got, want)
			}
			if hasModel(variables, with(clauses, opposites(got)...)) {
				t.Fatalf("%d does not entail %d", clauses, got)
			}
		})
	}
	if shortened < 50 {
		t.Errorf("only %d lessons are shortened", shortened)
	}
}

func opposites(lits []int) []int {
	var all []int
	for _, lit := range lits {
		all = append(all, -lit)
	}
	return all
}

// Each search ends for it: while nothing goes, there is always something new.
func TestWhatIsLearntWasNotThere(t *testing.T) {
	chance := newChance()
	for range 100 {
		s, _ := hardSearch(chance)
		drive(s, func() {}, func(conflict place) {
			lits := s.shorten(s.lesson(conflict))
			for _, at := range places(s.clauses) {
				if sameSet(s.clauses.literals(at), lits) {
					t.Fatalf("%d is learnt, but was there", lits)
				}
			}
		})
	}
}
