package knots

import (
	"knots/api"
	"knots/clause"
	"knots/search"
)

// Solver is some clauses, and the proof that was written so far.
type Solver struct {
	kept  []clause.Clause
	size  int    // how many literals all of them have
	proof []byte // whole lines
}

// New makes a solver without clauses (P5).
func New() *Solver {
	return &Solver{}
}

// Add adds a clause (P5).
func (s *Solver) Add(lits ...int) api.Errno {
	c, ok := clause.FromNumbers(lits)
	if !ok {
		return api.ErrLit
	}
	if c.AlwaysTrue() {
		return api.OK
	}
	if s.size+c.Size() > api.MaxLits {
		return api.ErrFull
	}
	s.kept = append(s.kept, c)
	s.size += c.Size()
	return api.OK
}

// Clauses tells all clauses (P5).
func (s *Solver) Clauses() string {
	return clause.Plain(s.kept)
}

// Solve looks whether all clauses can be true, and the literals that are assumed (P6).
func (s *Solver) Solve(assume []int, budget int) (api.Result, api.Errno) {
	if _, ok := clause.FromNumbers(assume); !ok {
		return api.Result{}, api.ErrLit
	}
	if budget < 0 {
		return api.Result{}, api.ErrRange
	}
	// Each search begins anew, so that its answer hangs on the clauses and the
	// question alone, not on what was asked before.
	look := search.New(api.MaxVar)
	for _, c := range s.kept {
		look.Add(c.Literals())
	}
	result := look.Run(assume, budget)
	s.writeDown(look.Steps(), result)
	return result, api.OK
}

// Proof tells the proof that was written so far (P7).
func (s *Solver) Proof() string {
	return string(s.proof)
}

// Reset takes all clauses away, and the proof (P5).
func (s *Solver) Reset() {
	*s = Solver{}
}
