package search

// learn takes in what a conflict above level 0 teaches, and goes back so far
// that all but one literal of it are still false: that one is true then.
func (s *Search) learn(conflict place) {
	lits := s.shorten(s.lesson(conflict))
	s.goBack(s.putHighestSecond(lits))
	s.steps = append(s.steps, Step{Lits: lits})
	at := s.keep(lits)
	s.clauses.use(at)
	s.force(at)
	s.queue.fade()
}

// lesson gives the clause of the conflict's first point through which all goes.
// It walks from the conflict back along the reasons, till just one literal that
// was met on the last level is left: that is the point. Its opposite stands
// first in the clause, behind it what was met of lower levels.
func (s *Search) lesson(conflict place) []int {
	lits := []int{0}
	met := make([]bool, len(s.trail.facts))
	left := 0
	at, i := conflict, len(s.trail.order)
	for {
		for _, lit := range s.meet(at, met) {
			if s.trail.fact(lit).level == s.trail.level() {
				left++
			} else {
				lits = append(lits, lit)
			}
		}
		i = s.lastMet(i, met)
		point := s.trail.order[i]
		if left == 1 {
			lits[0] = -point
			return lits
		}
		left--
		at = s.trail.fact(point).reason
	}
}

// meet marks the variables of a clause that has a part in a conflict, and gives
// the literals of those that were not met before. What is on level 0 teaches
// nothing, so it is left out.
func (s *Search) meet(at place, met []bool) []int {
	s.clauses.use(at)
	var fresh []int
	for _, lit := range s.clauses.literals(at) {
		variable := variableOf(lit)
		if met[variable] || s.trail.fact(lit).level == 0 {
			continue
		}
		met[variable] = true
		s.queue.count(variable)
		fresh = append(fresh, lit)
	}
	return fresh
}

// lastMet gives where on the trail, ahead of end, the last variable stands that
// was met.
func (s *Search) lastMet(end int, met []bool) int {
	last := end - 1
	for !met[variableOf(s.trail.order[last])] {
		last--
	}
	return last
}

// shorten leaves out of a lesson what follows from the rest: the literals, but for
// the first, that are false because others of them are. It walks along the trail,
// where all from which a literal came stands ahead of it.
func (s *Search) shorten(lits []int) []int {
	known := make([]bool, len(s.trail.facts))
	for _, lit := range lits {
		known[variableOf(lit)] = true
	}
	comes := make([]bool, len(s.trail.facts))
	for _, lit := range s.trail.order {
		if s.comesOf(lit, known) {
			known[variableOf(lit)] = true
			comes[variableOf(lit)] = true
		}
	}
	short := lits[:1]
	for _, lit := range lits[1:] {
		if !comes[variableOf(lit)] {
			short = append(short, lit)
		}
	}
	return short
}

// comesOf tells whether a literal was not decided, and all other variables of
// its reason are known.
func (s *Search) comesOf(lit int, known []bool) bool {
	reason := s.trail.fact(lit).reason
	if reason == nowhere {
		return false
	}
	for _, other := range s.clauses.literals(reason) {
		if other != lit && !known[variableOf(other)] {
			return false
		}
	}
	return true
}

// putHighestSecond puts a literal of the highest level behind the first one, and
// gives that level. So the two that are watched are the last to be false and
// the first to be open again.
func (s *Search) putHighestSecond(lits []int) int {
	if len(lits) == 1 {
		return 0
	}
	highest := 1
	for i := 2; i < len(lits); i++ {
		if s.trail.fact(lits[i]).level > s.trail.fact(lits[highest]).level {
			highest = i
		}
	}
	lits[1], lits[highest] = lits[highest], lits[1]
	return s.trail.fact(lits[1]).level
}

// goBack takes back all above a level. What is open then can be decided again.
func (s *Search) goBack(level int) {
	for _, lit := range s.trail.undo(level) {
		s.queue.Put(variableOf(lit))
	}
}
