// Package clause: clauses as sets of literals, and the lines that tell them.
package clause

import (
	"math/bits"
	"strconv"
	"strings"

	"knots/api"
)

// Clause is a set of literals, a bit each. The bits stand in the order of the
// plain form (1, -1, 2, -2 and so on): however a clause was written, it is one
// number, and to go through its bits is to go through its plain form.
type Clause uint32

// Does not compile if a Clause has too few bits for MaxVar variables.
const _ = uint32(1) << (2*api.MaxVar - 1)

// A third of all ones is every other bit: those of the literals above 0.
const above Clause = (1<<(2*api.MaxVar) - 1) / 3

// Of gives the clause of one literal alone; false, if the number is none.
func Of(lit int) (Clause, bool) {
	if 1 <= lit && lit <= api.MaxVar {
		return 1 << (2 * (lit - 1)), true
	}
	if -api.MaxVar <= lit && lit <= -1 {
		return 2 << (2 * (-lit - 1)), true
	}
	return 0, false
}

// FromNumbers gives the clause whose literals the numbers are; false, if one of
// them is none.
func FromNumbers(numbers []int) (Clause, bool) {
	return union(numbers, Of)
}

// union puts together the clauses of all parts; false, if one part has none.
func union[T any](parts []T, of func(T) (Clause, bool)) (Clause, bool) {
	var all Clause
	for _, part := range parts {
		one, ok := of(part)
		if !ok {
			return 0, false
		}
		all |= one
	}
	return all, true
}

// Opposites gives the opposites of all literals.
func (c Clause) Opposites() Clause {
	return (c&above)<<1 | (c>>1)&above
}

// AlwaysTrue tells whether two literals are opposite.
func (c Clause) AlwaysTrue() bool {
	return c&c.Opposites() != 0
}

// Size tells how many literals there are.
func (c Clause) Size() int {
	return bits.OnesCount32(uint32(c))
}

// Single tells whether there is just one literal.
func (c Clause) Single() bool {
	return c.Size() == 1
}

// first gives the literal that the plain form begins with.
func (c Clause) first() int {
	bit := bits.TrailingZeros32(uint32(c))
	variable := bit/2 + 1
	if bit%2 == 1 {
		return -variable
	}
	return variable
}

// Literals gives the literals, in the order of the plain form.
func (c Clause) Literals() []int {
	var lits []int
	for rest := c; rest != 0; rest &= rest - 1 {
		lits = append(lits, rest.first())
	}
	return lits
}

// Line tells the clause in its plain form.
func (c Clause) Line() string {
	var words []string
	for _, lit := range c.Literals() {
		words = append(words, strconv.Itoa(lit))
	}
	return strings.Join(words, " ") + "\n"
}

// Plain tells clauses in their plain form, in their order.
func Plain(all []Clause) string {
	var text strings.Builder
	for _, c := range all {
		text.WriteString(c.Line())
	}
	return text.String()
}
