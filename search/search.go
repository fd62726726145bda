// Package search looks for a model of clauses, and learns from each conflict it
// runs into.
package search

import (
	"slices"

	"knots/api"
)

// Search is one search for a model.
type Search struct {
	clauses   store
	watches   watches
	trail     trail
	queue     *queue
	rounds    rounds
	given     place // where the learnt clauses begin, behind all that were added
	broken    place // a clause that was false as soon as it came, or nowhere
	assumed   []int // each once
	conflicts int
	steps     []Step
}

// Step is one change of the clauses: one is learnt, or one that was goes.
type Step struct {
	Lits []int
	Goes bool
}

// New makes a search without clauses, of the variables from 1 on.
func New(variables int) *Search {
	return &Search{
		watches: newWatches(variables),
		trail:   newTrail(variables),
		queue:   newQueue(variables),
		rounds:  newRounds(),
		broken:  nowhere,
	}
}

// Add adds a clause, ahead of Run. No literal may stand in it twice, and none
// with its opposite.
func (s *Search) Add(lits []int) {
	at := s.keep(lits)
	s.given = s.clauses.end()
	if len(lits) < 2 && s.broken == nowhere {
		s.broken = s.force(at)
	}
}

// Run looks for a model in which all that is assumed is true, once only. It
// ends behind as many conflicts as the budget says, unless that is 0.
func (s *Search) Run(assumed []int, budget int) api.Result {
	s.assumed = eachOnce(assumed)
	for {
		if conflict := s.conflict(); conflict != nowhere {
			s.conflicts++
			if s.trail.level() == 0 {
				return s.unsat(nil)
			}
			s.learn(conflict)
			if s.conflicts == budget {
				return api.Result{Kind: api.Unknown, Conflicts: s.conflicts}
			}
			if s.rounds.over() {
				s.beginAnew()
			}
			continue
		}
		lit := s.next()
		if lit == 0 {
			return s.sat()
		}
		if s.trail.isFalse(lit) {
			return s.unsat(s.core(lit))
		}
		s.trail.decide(lit)
	}
}

// Steps gives all changes of the clauses that Run made, in their order. Each that
// is learnt follows from those that are there then.
func (s *Search) Steps() []Step {
	return s.steps
}

func eachOnce(lits []int) []int {
	var all []int
	for _, lit := range lits {
		if !slices.Contains(all, lit) {
			all = append(all, lit)
		}
	}
	return all
}

// conflict gives the place of a clause that is false, or nowhere.
func (s *Search) conflict() place {
	if s.broken != nowhere {
		return s.broken
	}
	return s.propagate()
}

// next gives the literal that is to be true next, 0 if no variable is open.
// While something that is assumed is not true, nothing else is decided; so, if
// it is false, it is so for what else is assumed.
func (s *Search) next() int {
	for _, lit := range s.assumed {
		if !s.trail.isTrue(lit) {
			return lit
		}
	}
	for {
		variable, found := s.queue.Take()
		if !found {
			return 0
		}
		if s.trail.isOpen(variable) {
			return -variable
		}
	}
}

func (s *Search) sat() api.Result {
	var model []int
	for _, fact := range s.trail.facts[1:] {
		model = append(model, fact.truth)
	}
	return api.Result{Kind: api.Sat, Model: model, Conflicts: s.conflicts}
}

func (s *Search) unsat(core []int) api.Result {
	return api.Result{Kind: api.Unsat, Core: core, Conflicts: s.conflicts}
}

// core gives an assumed literal that is false, and all that is assumed from
// which that comes, in the order in which it was assumed.
func (s *Search) core(untrue int) []int {
	blamed := []int{untrue}
	met := make([]bool, len(s.trail.facts))
	met[variableOf(untrue)] = true
	for _, lit := range slices.Backward(s.trail.order) {
		if !met[variableOf(lit)] {
			continue
		}
		reason := s.trail.fact(lit).reason
		if reason == nowhere {
			blamed = append(blamed, lit)
			continue
		}
		for _, other := range s.clauses.literals(reason) {
			met[variableOf(other)] = true
		}
	}
	var core []int
	for _, lit := range s.assumed {
		if slices.Contains(blamed, lit) {
			core = append(core, lit)
		}
	}
	return core
}
