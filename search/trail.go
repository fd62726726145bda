package search

// trail is what is taken to be true, in the order in which it was. Each
// decision begins a level, and what comes of it is on that level too; what
// needs no decision is on level 0.
type trail struct {
	facts  []fact // of each variable
	order  []int  // the literals that are true
	starts []int  // how many literals each level has below it
	passed int    // of how many literals it is known what comes of them
}

// fact is what is known of a variable.
type fact struct {
	truth  int   // its literal that is true, 0 if the variable is open
	level  int   // the level on which that one became true
	reason place // the clause from which it came, nowhere if it was decided
}

func newTrail(variables int) trail {
	return trail{facts: make([]fact, variables+1)}
}

func variableOf(lit int) int {
	return max(lit, -lit)
}

func (t *trail) fact(lit int) fact {
	return t.facts[variableOf(lit)]
}

func (t *trail) isTrue(lit int) bool {
	return t.fact(lit).truth == lit
}

func (t *trail) isFalse(lit int) bool {
	return t.fact(lit).truth == -lit
}

func (t *trail) isOpen(lit int) bool {
	return t.fact(lit).truth == 0
}

func (t *trail) level() int {
	return len(t.starts)
}

// take takes an open literal to be true, for what a clause says.
func (t *trail) take(lit int, reason place) {
	t.facts[variableOf(lit)] = fact{truth: lit, level: t.level(), reason: reason}
	t.order = append(t.order, lit)
}

// decide takes an open literal to be true on a new level.
func (t *trail) decide(lit int) {
	t.starts = append(t.starts, len(t.order))
	t.take(lit, nowhere)
}

// isForced tells whether a literal is true for what a clause says.
func (t *trail) isForced(lit int, reason place) bool {
	return t.isTrue(lit) && t.fact(lit).reason == reason
}

// setReason tells where the clause lies now for which a literal is true.
func (t *trail) setReason(lit int, reason place) {
	t.facts[variableOf(lit)].reason = reason
}

// undo takes back all above a level and gives it, as long as nothing is taken anew.
func (t *trail) undo(level int) []int {
	if level >= t.level() {
		return nil
	}
	start := t.starts[level]
	undone := t.order[start:]
	for _, lit := range undone {
		t.facts[variableOf(lit)] = fact{}
	}
	t.order = t.order[:start]
	t.starts = t.starts[:level]
	t.passed = min(t.passed, start)
	return undone
}
