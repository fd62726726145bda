package search

import (
	"slices"
	"testing"
)

// places gives where the clauses of a store lie.
func places(s store) []place {
	var all []place
	for at := 0; at < len(s); at += headSize + s[at] {
		all = append(all, place(at))
	}
	return all
}

func TestStore(t *testing.T) {
	var s store
	lits := []int{3, -1, 2}
	first, empty, last := s.add(lits), s.add(nil), s.add([]int{-4})
	lits[0] = 9
	if !slices.Equal(s, store{3, 0, 3, -1, 2, 0, 0, 1, 0, -4}) {
		t.Errorf("the store is %d", s)
	}
	if !slices.Equal(s.literals(first), []int{3, -1, 2}) || len(s.literals(empty)) != 0 || !slices.Equal(s.literals(last), []int{-4}) {
		t.Errorf("the clauses are %d, %d, %d", s.literals(first), s.literals(empty), s.literals(last))
	}
	if s.behind(first) != empty || s.behind(empty) != last || s.behind(last) != s.end() || s.end() != 10 {
		t.Errorf("behind each other lie %d, %d, %d, %d", first, s.behind(first), s.behind(empty), s.behind(last))
	}
	s.literals(first)[0] = 7
	_ = append(s.literals(first), 8)
	s.use(last)
	s.use(last)
	if !slices.Equal(s, store{3, 0, 7, -1, 2, 0, 0, 1, 1, -4}) || s.isUsed(first) || !s.isUsed(last) {
		t.Errorf("the store is %d", s)
	}
}

// wantWatched looks whether each clause watches its two first literals, and
// no others, as long as it has two.
func wantWatched(t *testing.T, s *Search) {
	t.Helper()
	var want, got [][2]int
	for _, at := range places(s.clauses) {
		if lits := s.clauses.literals(at); len(lits) >= 2 {
			want = append(want, [2]int{lits[0], int(at)}, [2]int{lits[1], int(at)})
		}
	}
	for variable := 1; variable < len(s.trail.facts); variable++ {
		for _, lit := range []int{variable, -variable} {
			for _, at := range *s.watches.of(lit) {
				got = append(got, [2]int{lit, int(at)})
			}
		}
	}
	byNumbers := func(a, b [2]int) int { return slices.Compare(a[:], b[:]) }
	slices.SortFunc(want, byNumbers)
	slices.SortFunc(got, byNumbers)
	if !slices.Equal(want, got) {
		t.Fatalf("watched is %d, not %d", got, want)
	}
}

// wantNothingMissed looks whether each clause has a true literal, or two that
// are open.
func wantNothingMissed(t *testing.T, s *Search) {
	t.Helper()
	for _, at := range places(s.clauses) {
		open, isTrue := 0, false
		for _, lit := range s.clauses.literals(at) {
			isTrue = isTrue || s.trail.isTrue(lit)
			if s.trail.isOpen(lit) {
				open++
			}
		}
		if !isTrue && open < 2 {
			t.Fatalf("of %d more comes, with %d", s.clauses.literals(at), s.trail.order)
		}
	}
}

// wantReasons looks whether all that was not decided comes of its reason and of
// what was true before.
func wantReasons(t *testing.T, s *Search) {
	t.Helper()
	for i, lit := range s.trail.order {
		fact := s.trail.fact(lit)
		if fact.reason == nowhere {
			if fact.level == 0 || s.trail.starts[fact.level-1] != i {
				t.Fatalf("%d was decided inside level %d", lit, fact.level)
			}
			continue
		}
		level := 0
		for _, other := range s.clauses.literals(fact.reason) {
			if other != lit && !slices.Contains(s.trail.order[:i], -other) {
				t.Fatalf("%d does not come of %d", lit, s.clauses.literals(fact.reason))
			}
			if other != lit {
				level = max(level, s.trail.fact(other).level)
			}
		}
		if fact.level < level {
			t.Fatalf("%d is on level %d, but comes of level %d", lit, fact.level, level)
		}
	}
}

func TestPropagate(t *testing.T) {
	s := searchOf(5, []int{-1, 2}, []int{-2, -1, 3}, []int{4, -3, 5, -2}, []int{1, 5})
	if at := s.conflict(); at != nowhere || len(s.trail.order) != 0 {
		t.Fatalf("without a decision: %d, %d", at, s.trail.order)
	}
	s.trail.decide(1)
	if at := s.propagate(); at != nowhere || !slices.Equal(s.trail.order, []int{1, 2, 3}) {
		t.Errorf("of 1 comes %d, %d", at, s.trail.order)
	}
	s.trail.decide(-5)
	if at := s.propagate(); at != nowhere || !slices.Equal(s.trail.order, []int{1, 2, 3, -5, 4}) {
		t.Errorf("then of -5 comes %d, %d", at, s.trail.order)
	}
	wantWatched(t, s)
	s.goBack(0)
	s.trail.decide(-1)
	if at := s.propagate(); at != nowhere || !slices.Equal(s.trail.order, []int{-1, 5}) {
		t.Errorf("of -1 comes %d, %d", at, s.trail.order)
	}
	wantWatched(t, s)
}

func TestRewatch(t *testing.T) {
	s := searchOf(4, []int{1, 2, 3, 4})
	want := func(untrue int, moves bool, lits ...int) {
		t.Helper()
		if got := s.rewatch(0, untrue); got != moves || !slices.Equal(s.clauses.literals(0), lits) {
			t.Errorf("rewatch = %t, behind it %d", got, s.clauses.literals(0))
		}
	}
	s.trail.decide(-1)
	want(1, true, 2, 3, 1, 4)
	s.trail.decide(-3)
	want(3, true, 2, 4, 1, 3)
	s.trail.decide(-2)
	want(2, false, 4, 2, 1, 3)
	s.goBack(0)
	s.trail.decide(4)
	s.trail.decide(-2)
	want(2, false, 4, 2, 1, 3)
}

func TestUndo(t *testing.T) {
	s := searchOf(4, []int{-1, 2})
	for _, lit := range []int{3, 1, 4} {
		s.trail.decide(lit)
		s.propagate()
	}
	if undone := s.trail.undo(3); len(undone) != 0 || s.trail.level() != 3 || s.trail.passed != 4 {
		t.Errorf("of the last level %d is undone", undone)
	}
	if undone := s.trail.undo(1); !slices.Equal(undone, []int{1, 2, 4}) || s.trail.level() != 1 || s.trail.passed != 1 {
		t.Errorf("above level 1 %d is undone", undone)
	}
	for lit := range 4 {
		if open := s.trail.isOpen(lit + 1); open != (lit+1 != 3) {
			t.Errorf("%d is open: %t", lit+1, open)
		}
	}
	if undone := s.trail.undo(0); !slices.Equal(undone, []int{3}) || s.trail.undo(0) != nil {
		t.Errorf("above level 0 %d is undone", undone)
	}
}

func TestShortClauses(t *testing.T) {
	s := searchOf(3, []int{2}, []int{-2, 3}, []int{2}, []int{3})
	if at := s.conflict(); at != nowhere || !slices.Equal(s.trail.order, []int{2, 3}) || s.trail.level() != 0 {
		t.Errorf("of single literals comes %d, %d", at, s.trail.order)
	}
	for _, clauses := range [][][]int{{{}}, {{1}, {-1}}, {{1}, {}, {2}}, {{1}, {-1}, {2}}, {{1, 2}, {-1}, {-2}}} {
		s := searchOf(3, clauses...)
		at := s.conflict()
		if at == nowhere || s.trail.level() != 0 {
			t.Fatalf("of %d comes no conflict", clauses)
		}
		for _, lit := range s.clauses.literals(at) {
			if !s.trail.isFalse(lit) {
				t.Errorf("of %d: %d is not false", clauses, lit)
			}
		}
	}
}

// drive searches as Run does, without a bound and with nothing assumed, and
// tells whether there is a model. It calls still each time when all that comes
// is taken, and struck at each conflict above level 0.
func drive(s *Search, still func(), struck func(conflict place)) bool {
	for {
		conflict := s.conflict()
		if conflict != nowhere {
			if s.trail.level() == 0 {
				return false
			}
			struck(conflict)
			s.learn(conflict)
			if s.rounds.over() {
				s.beginAnew()
			}
			continue
		}
		still()
		lit := s.next()
		if lit == 0 {
			return true
		}
		s.trail.decide(lit)
	}
}

func TestAllThatComesIsTaken(t *testing.T) {
	chance := newChance()
	for range 1000 {
		s, _ := randomSearch(chance)
		drive(s, func() {
			wantWatched(t, s)
			wantNothingMissed(t, s)
			wantReasons(t, s)
		}, func(conflict place) {
			wantWatched(t, s)
			wantReasons(t, s)
			for _, lit := range s.clauses.literals(conflict) {
				if !s.trail.isFalse(lit) {
					t.Fatalf("%d is a conflict, but %d is not false", s.clauses.literals(conflict), lit)
				}
			}
		})
	}
}
