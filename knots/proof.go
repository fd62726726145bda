package knots

import (
	"knots/api"
	"knots/clause"
	"knots/search"
)

// writeDown puts behind the proof what a search did to the clauses, and, if it
// found no model, the clause that says of which assumed literals that comes.
func (s *Solver) writeDown(steps []search.Step, result api.Result) {
	for _, step := range steps {
		s.proof = append(s.proof, stepLine(step)...)
	}
	if result.Kind == api.Unsat {
		s.proof = append(s.proof, setOf(result.Core).Opposites().Line()...)
	}
}

// stepLine tells a step. That the letter has a blank behind it holds of a clause
// with literals alone; no other one is learnt, so no other one goes.
func stepLine(step search.Step) string {
	line := setOf(step.Lits).Line()
	if step.Goes {
		return "d " + line
	}
	return line
}

// setOf gives the clause of literals that are known to be such.
func setOf(lits []int) clause.Clause {
	c, _ := clause.FromNumbers(lits)
	return c
}
