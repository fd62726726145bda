package check

import "knots/clause"

// list is clauses, each some times. One that stands there often is gone
// through once only, so that a proof is not slow to follow for copies.
type list struct {
	entries []entry
	places  map[clause.Clause]int
}

type entry struct {
	clause clause.Clause
	times  int
}

func newList(all []clause.Clause) *list {
	l := &list{places: map[clause.Clause]int{}}
	for _, c := range all {
		l.add(c)
	}
	return l
}

func (l *list) add(c clause.Clause) {
	place, known := l.places[c]
	if !known {
		place = len(l.entries)
		l.places[c] = place
		l.entries = append(l.entries, entry{clause: c})
	}
	l.entries[place].times++
}

// drop takes a clause away once; false, if it is not there.
func (l *list) drop(c clause.Clause) bool {
	place, known := l.places[c]
	if !known || l.entries[place].times == 0 {
		return false
	}
	l.entries[place].times--
	return true
}

// follows tells whether to take all literals of c to be false ends in a conflict.
func (l *list) follows(c clause.Clause) bool {
	if c.AlwaysTrue() {
		return true
	}
	untrue := c
	for {
		more, conflict := l.pass(untrue)
		if conflict {
			return true
		}
		if more == untrue {
			return false
		}
		untrue = more
	}
}

// pass goes through the list once and gives the literals that are taken to be
// false then. It never takes both of two opposite ones: the literal of a clause
// that is left is not false yet, and only its opposite becomes so.
func (l *list) pass(untrue clause.Clause) (clause.Clause, bool) {
	for _, e := range l.entries {
		if e.times == 0 {
			continue
		}
		left := e.clause &^ untrue
		if left == 0 {
			return untrue, true
		}
		if left.Single() {
			untrue |= left.Opposites()
		}
	}
	return untrue, false
}
