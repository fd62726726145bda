// Package knots: can all clauses be true at once: see DOC.md.
package knots

import (
	"knots/api"
	"knots/check"
	"knots/clause"
)

// Solver is some clauses, and the proof that was written so far.
type Solver struct{}

// Plain tells clauses in their plain form (P3).
func Plain(clauses string) (string, api.Errno, int) {
	all, errno, at := clause.Read(clauses)
	if errno != api.OK {
		return "", errno, at
	}
	return clause.Plain(all), api.OK, 0
}

// Check looks whether a proof follows from clauses (P4).
func Check(clauses string, proof string) (api.Errno, int) {
	return check.Proof(clauses, proof)
}

// New makes a solver without clauses (P5).
func New() *Solver { return nil }

// Add adds a clause (P5).
func (s *Solver) Add(lits ...int) api.Errno { return api.OK }

// Clauses tells all clauses (P5).
func (s *Solver) Clauses() string { return "" }

// Solve looks whether all clauses can be true, and the literals that are assumed (P6).
func (s *Solver) Solve(assume []int, budget int) (api.Result, api.Errno) {
	return api.Result{}, api.OK
}

// Proof tells the proof that was written so far (P7).
func (s *Solver) Proof() string { return "" }

// Reset takes all clauses away, and the proof (P5).
func (s *Solver) Reset() {}
