// Package check follows a proof step by step, without any search.
package check

import (
	"strings"

	"knots/api"
	"knots/clause"
)

// Proof follows the steps of a proof from a text of clauses. With an error it
// tells the number of the line or step, or 0 if a text is too long.
func Proof(clauses string, proof string) (api.Errno, int) {
	all, errno, at := clause.Read(clauses)
	if errno != api.OK {
		return errno, at
	}
	if len(proof) > api.MaxText {
		return api.ErrLong, 0
	}
	l := newList(all)
	number := 0
	for line := range strings.Lines(proof) {
		number++
		if errno := l.take(line); errno != api.OK {
			return errno, number
		}
	}
	return api.OK, 0
}

// take takes one step.
func (l *list) take(line string) api.Errno {
	c, goes, ok := readStep(line)
	if !ok {
		return api.ErrLine
	}
	if goes {
		if !l.drop(c) {
			return api.ErrLost
		}
		return api.OK
	}
	if !l.follows(c) {
		return api.ErrStep
	}
	l.add(c)
	return api.OK
}

// readStep gives a step's clause, and whether it goes; false behind them, if
// the line is no step.
func readStep(line string) (c clause.Clause, goes bool, ok bool) {
	words, ended := clause.Words(line)
	if len(words) > 0 && words[0] == "d" {
		goes = true
		words = words[1:]
	}
	c, ok = clause.FromWords(words)
	return c, goes, ok && ended
}
