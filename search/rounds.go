package search

import "slices"

// firstRound is how many conflicts the first round has. The searches are short,
// so a round must be so too if there is to be a second one.
const firstRound = 4

// rounds are what a search goes through: behind each of them it begins anew.
type rounds struct {
	length int // of how many conflicts the one is that is on
	met    int // how many of them there were
}

func newRounds() rounds {
	return rounds{length: firstRound}
}

// over is told of each conflict, and tells whether it was the round's last one.
func (r *rounds) over() bool {
	r.met++
	return r.met >= r.length
}

// next goes on to the next round. What is learnt in a round does not go till its
// end, and what is there is not learnt again. So a search ends within a round
// that is longer than there are clauses to be learnt; and since each is longer by
// half than the one ahead of it, it comes to such a one if it does not end before.
func (r *rounds) next() {
	r.length += r.length / 2
	r.met = 0
}

// beginAnew ends a round: all decisions are taken back, and learnt clauses go.
func (s *Search) beginAnew() {
	s.goBack(0)
	s.dropUnused()
	s.rounds.next()
}

// dropUnused lets the learnt clauses go that were neither learnt in this round nor
// had a part in one of its conflicts; but the reasons of what is true stay, since
// it would not follow without them. What stays moves together, is watched anew,
// and must be of use anew.
func (s *Search) dropUnused() {
	old := s.clauses
	s.clauses = slices.Clone(old[:s.given])
	for at := s.given; at < old.end(); at = old.behind(at) {
		lits := old.literals(at)
		forced := s.trail.isForced(lits[0], at)
		if !old.isUsed(at) && !forced {
			s.steps = append(s.steps, Step{Lits: lits, Goes: true})
			continue
		}
		to := s.clauses.add(lits)
		if forced {
			s.trail.setReason(lits[0], to)
		}
	}
	s.watchAnew()
}
