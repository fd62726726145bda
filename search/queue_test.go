package search

import "testing"

func takeAll(q *queue) []int {
	var all []int
	for variable, found := q.Take(); found; variable, found = q.Take() {
		all = append(all, variable)
	}
	return all
}

func TestVariablesOfConflictsComeFirst(t *testing.T) {
	q := newQueue(4)
	for _, variable := range []int{3, 2, 3, 3, 2, 4} {
		q.count(variable)
	}
	all := takeAll(q)
	if len(all) != 4 || all[0] != 3 || all[1] != 2 || all[2] != 4 || all[3] != 1 {
		t.Errorf("the variables come as %d", all)
	}
}

func TestAVariableIsCountedWhileItIsOut(t *testing.T) {
	q := newQueue(3)
	for range 3 {
		q.Take()
	}
	q.count(2)
	for variable := 1; variable <= 3; variable++ {
		q.Put(variable)
	}
	if variable, found := q.Take(); !found || variable != 2 {
		t.Errorf("Take = %d, %t", variable, found)
	}
}

// Of two variables, the one that was counted of late comes first, though the
// other was counted more often in all.
func TestCountsFade(t *testing.T) {
	q := newQueue(2)
	for range 10 {
		q.count(1)
	}
	for range 2*fadeAfter - 1 {
		q.fade()
	}
	if q.counts[1] != 5 {
		t.Errorf("behind %d conflicts it counts %d", 2*fadeAfter-1, q.counts[1])
	}
	q.fade()
	for range 3 {
		q.count(2)
	}
	if variable, _ := q.Take(); variable != 2 {
		t.Errorf("%d comes first", variable)
	}
}

func TestTheNextOneIsOpen(t *testing.T) {
	s := searchOf(3, []int{1})
	s.queue.count(1)
	s.queue.count(3)
	s.queue.count(3)
	s.assumed = []int{1, -2}
	for _, want := range []int{-2, -3, 0, 0} {
		lit := s.next()
		if lit != want {
			t.Errorf("next = %d, not %d", lit, want)
		}
		if lit != 0 {
			s.trail.decide(lit)
		}
	}
	s.goBack(1)
	if lit := s.next(); lit != -3 {
		t.Errorf("what was taken back is open, but next = %d", lit)
	}
}
