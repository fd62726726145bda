package search

// store is all clauses in one list of numbers. At a clause's place stands its
// head, the count of its literals; behind the head stand the literals.
type store []int

// place is where the head of a clause stands.
type place int

const nowhere place = -1

// add lays a clause behind all others.
func (s *store) add(lits []int) place {
	at := place(len(*s))
	*s = append(*s, len(lits))
	*s = append(*s, lits...)
	return at
}

// literals gives the literals where they lie, so that they can be swapped there.
func (s store) literals(at place) []int {
	from := int(at) + 1
	end := from + s[at]
	return s[from:end:end]
}
