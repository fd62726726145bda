package search

import (
	"math/rand"
	"slices"
)

// The seed is fixed, so that what fails once fails again.
func newChance() *rand.Rand { return rand.New(rand.NewSource(1)) }

func randomLiteral(chance *rand.Rand, variables int) int {
	lit := 1 + chance.Intn(variables)
	if chance.Intn(2) == 0 {
		return -lit
	}
	return lit
}

// randomClauses makes clauses most of which have three literals, since short ones
// leave little to search for.
func randomClauses(chance *rand.Rand, variables, count int) [][]int {
	all := make([][]int, count)
	for i := range all {
		size := 3
		if chance.Intn(10) == 0 {
			size = 1 + chance.Intn(min(variables, 5))
		}
		for len(all[i]) < size {
			lit := randomLiteral(chance, variables)
			if !slices.Contains(all[i], lit) && !slices.Contains(all[i], -lit) {
				all[i] = append(all[i], lit)
			}
		}
	}
	return all
}

func randomSearch(chance *rand.Rand) (*Search, [][]int) {
	variables := 3 + chance.Intn(8)
	clauses := randomClauses(chance, variables, variables+chance.Intn(5*variables))
	return searchOf(variables, clauses...), clauses
}

func searchOf(variables int, clauses ...[]int) *Search {
	s := New(variables)
	for _, lits := range clauses {
		s.Add(lits)
	}
	return s
}

// someTrue tells whether a literal is true where the variables' values are bits.
func someTrue(lits []int, values int) bool {
	return slices.ContainsFunc(lits, func(lit int) bool {
		return lit > 0 == (values>>(variableOf(lit)-1)&1 == 1)
	})
}

// hasModel looks at all values of the variables, one after the other.
func hasModel(variables int, clauses [][]int) bool {
	for values := range 1 << variables {
		if !slices.ContainsFunc(clauses, func(lits []int) bool { return !someTrue(lits, values) }) {
			return true
		}
	}
	return false
}

// with gives the clauses, and one for each literal alone.
func with(clauses [][]int, lits ...int) [][]int {
	all := slices.Clone(clauses)
	for _, lit := range lits {
		all = append(all, []int{lit})
	}
	return all
}
