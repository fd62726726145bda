package search

// store is all clauses in one list of numbers. At a clause's place stands its
// head: the count of its literals, and whether it was of use in the round that is
// on, 0 or 1; behind the head stand the literals.
type store []int

// place is where the head of a clause stands.
type place int

const nowhere place = -1

// headSize is how many numbers a head has.
const headSize = 2

// add lays a clause behind all others.
func (s *store) add(lits []int) place {
	at := s.end()
	*s = append(*s, len(lits), 0)
	*s = append(*s, lits...)
	return at
}

// literals gives the literals where they lie, so that they can be swapped there.
func (s store) literals(at place) []int {
	behind := s.behind(at)
	return s[at+headSize : behind : behind]
}

// behind gives the place of the clause that lies behind another; the end, if
// there is none.
func (s store) behind(at place) place {
	return at + headSize + place(s[at])
}

func (s store) end() place {
	return place(len(s))
}

// use notes that a clause was of use.
func (s store) use(at place) {
	s[at+1] = 1
}

func (s store) isUsed(at place) bool {
	return s[at+1] == 1
}
