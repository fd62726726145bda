package search

import (
	"math/rand"
	"slices"
)

// The seed is fixed, so that what fails once fails again.
func newChance() *rand.Rand { return rand.New(rand.NewSource(1)) }

func randomLiteral(chance *rand.Rand, variables int) int {
	lit := 1 + chance.Intn(variables)
	if chance.Intn(2) == 0 {
		return -lit
	}
	return lit
}

func randomClause(chance *rand.Rand, variables, size int) []int {
	var lits []int
	for len(lits) < size {
		lit := randomLiteral(chance, variables)
		if !slices.Contains(lits, lit) && !slices.Contains(lits, -lit) {
			lits = append(lits, lit)
		}
	}
	return lits
}

// randomClauses makes clauses most of which have three literals, since short ones
// leave little to search for.
func randomClauses(chance *rand.Rand, variables, count int) [][]int {
	all := make([][]int, count)
	for i := range all {
		size := 3
		if chance.Intn(10) == 0 {
			size = 1 + chance.Intn(min(variables, 5))
		}
		all[i] = randomClause(chance, variables, size)
	}
	return all
}

func randomSearch(chance *rand.Rand) (*Search, [][]int) {
	variables := 3 + chance.Intn(8)
	clauses := randomClauses(chance, variables, variables+chance.Intn(5*variables))
	return searchOf(variables, clauses...), clauses
}

// hardSearch makes a search that runs into many conflicts, of more variables
// than one can go through all values of.
func hardSearch(chance *rand.Rand) (*Search, [][]int) {
	variables := 20 + chance.Intn(20)
	clauses := make([][]int, 4*variables+chance.Intn(variables))
	for i := range clauses {
		clauses[i] = randomClause(chance, variables, 3)
	}
	return searchOf(variables, clauses...), clauses
}

func searchOf(variables int, clauses ...[]int) *Search {
	s := New(variables)
	for _, lits := range clauses {
		s.Add(lits)
	}
	return s
}

// someTrue tells whether a literal is true where the variables' values are bits.
func someTrue(lits []int, values int) bool {
	return slices.ContainsFunc(lits, func(lit int) bool {
		return lit > 0 == (values>>(variableOf(lit)-1)&1 == 1)
	})
}

// hasModel looks at all values of the variables, one after the other.
func hasModel(variables int, clauses [][]int) bool {
	for values := range 1 << variables {
		if !slices.ContainsFunc(clauses, func(lits []int) bool { return !someTrue(lits, values) }) {
			return true
		}
	}
	return false
}

// with gives the clauses, and one for each literal alone.
func with(clauses [][]int, lits ...int) [][]int {
	all := slices.Clone(clauses)
	for _, lit := range lits {
		all = append(all, []int{lit})
	}
	return all
}
