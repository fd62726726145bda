package search

// watches has for each literal the places of the clauses that watch it. A clause
// watches its two first literals; one that has fewer watches none.
type watches struct {
	variables int
	lists     [][]place
}

func newWatches(variables int) watches {
	return watches{variables: variables, lists: make([][]place, 2*variables+1)}
}

// of gives the list of a literal, to be read or changed.
func (w *watches) of(lit int) *[]place {
	return &w.lists[w.variables+lit]
}

func (w *watches) add(lit int, at place) {
	list := w.of(lit)
	*list = append(*list, at)
}

// keep lays a clause into the store, and has it watch its two first literals.
func (s *Search) keep(lits []int) place {
	at := s.clauses.add(lits)
	s.watch(at)
	return at
}

func (s *Search) watch(at place) {
	lits := s.clauses.literals(at)
	if len(lits) >= 2 {
		s.watches.add(lits[0], at)
		s.watches.add(lits[1], at)
	}
}

// watchAnew fills the lists of the watches for what lies in the store now.
func (s *Search) watchAnew() {
	s.watches = newWatches(s.watches.variables)
	for at := place(0); at < s.clauses.end(); at = s.clauses.behind(at) {
		s.watch(at)
	}
}

// propagate takes to be true what comes of all that is true. It gives the place
// of a clause that is false, or nowhere.
func (s *Search) propagate() place {
	for s.trail.passed < len(s.trail.order) {
		lit := s.trail.order[s.trail.passed]
		s.trail.passed++
		if at := s.visit(-lit); at != nowhere {
			return at
		}
	}
	return nowhere
}

// visit goes to the clauses that watch a literal that has become false. Those
// that find another one to watch leave its list.
func (s *Search) visit(untrue int) place {
	list := s.watches.of(untrue)
	stay := (*list)[:0]
	conflict := nowhere
	for _, at := range *list {
		if s.rewatch(at, untrue) {
			continue
		}
		stay = append(stay, at)
		if conflict == nowhere {
			conflict = s.force(at)
		}
	}
	*list = stay
	return conflict
}

// rewatch has a clause watch another literal for one that has become false. It
// does not if the other watched one is true, or if no other is left; the other
// watched one stands first then.
func (s *Search) rewatch(at place, untrue int) bool {
	lits := s.clauses.literals(at)
	if lits[0] == untrue {
		lits[0], lits[1] = lits[1], lits[0]
	}
	if s.trail.isTrue(lits[0]) {
		return false
	}
	for i := 2; i < len(lits); i++ {
		if !s.trail.isFalse(lits[i]) {
			lits[1], lits[i] = lits[i], lits[1]
			s.watches.add(lits[1], at)
			return true
		}
	}
	return false
}

// force takes the first literal of a clause to be true whose others are all
// false, unless it is true. If there is none that could be, it gives the place.
func (s *Search) force(at place) place {
	lits := s.clauses.literals(at)
	if len(lits) == 0 || s.trail.isFalse(lits[0]) {
		return at
	}
	if s.trail.isOpen(lits[0]) {
		s.trail.take(lits[0], at)
	}
	return nowhere
}
