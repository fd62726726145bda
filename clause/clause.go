// Package clause: clauses as sets of literals, and the lines that tell them.
package clause

import (
	"math/bits"
	"strconv"
	"strings"

	"knots/api"
)

// Clause is a set of literals, a bit each. The bits stand in the order of the
// plain form (1, -1, 2, -2 and so on): however a clause was written, it is one
// number, and to go through its bits is to go through its plain form.
type Clause uint32

// Does not compile if a Clause has too few bits for MaxVar variables.
const _ = uint32(1) << (2*api.MaxVar - 1)

// A third of all ones is every other bit: those of the literals above 0.
const above Clause = (1<<(2*api.MaxVar) - 1) / 3

// Of gives the clause of one literal alone; false, if the number is none.
func Of(lit int) (Clause, bool) {
	if 1 <= lit && lit <= api.MaxVar {
		return 1 << (2 * (lit - 1)), true
	}
	if -api.MaxVar <= lit && lit <= -1 {
		return 2 << (2 * (-lit - 1)), true
	}
	return 0, false
}

// Opposites gives the opposites of all literals.
func (c Clause) Opposites() Clause {
	return (c&above)<<1 | (c>>1)&above
}

// AlwaysTrue tells whether two literals are opposite.
func (c Clause) AlwaysTrue() bool {
	return c&c.Opposites() != 0
}

// Single tells whether there is just one literal.
func (c Clause) Single() bool {
	return bits.OnesCount32(uint32(c)) == 1
}

// first gives the literal that the plain form begins with.
func (c Clause) first() int {
	bit := bits.TrailingZeros32(uint32(c))
	variable := bit/2 + 1
	if bit%2 == 1 {
		return -variable
	}
	return variable
}

// Line tells the clause in its plain form.
func (c Clause) Line() string {
	var words []string
	for rest := c; rest != 0; rest &= rest - 1 {
		words = append(words, strconv.Itoa(rest.first()))
	}
	return strings.Join(words, " ") + "\n"
}

// Plain tells clauses in their plain form, in their order.
func Plain(all []Clause) string {
	var text strings.Builder
	for _, c := range all {
		text.WriteString(c.Line())
	}
	return text.String()
}
