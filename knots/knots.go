// Package knots: can all clauses be true at once: see DOC.md.
package knots

import (
	"knots/api"
	"knots/check"
	"knots/clause"
)

// Plain tells clauses in their plain form (P3).
func Plain(clauses string) (string, api.Errno, int) {
	all, errno, at := clause.Read(clauses)
	if errno != api.OK {
		return "", errno, at
	}
	return clause.Plain(all), api.OK, 0
}

// Check looks whether a proof follows from clauses (P4).
func Check(clauses string, proof string) (api.Errno, int) {
	return check.Proof(clauses, proof)
}
