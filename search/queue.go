package search

import "knots/heap"

// fadeAfter is after how many conflicts all counts are halved.
const fadeAfter = 8

// queue tells which variable is decided next: the one on which most of the
// latest conflicts hung.
type queue struct {
	heap.Heap[int]
	counts    []int // on how many conflicts each variable had a part
	places    []int // where each variable stands in the heap
	conflicts int   // since the counts were halved
}

func newQueue(variables int) *queue {
	q := &queue{counts: make([]int, variables+1), places: make([]int, variables+1)}
	q.Ahead = func(a, b int) bool { return q.counts[a] > q.counts[b] }
	q.Place = func(variable int) *int { return &q.places[variable] }
	for variable := 1; variable <= variables; variable++ {
		q.Put(variable)
	}
	return q
}

// count counts a variable on which a conflict hangs.
func (q *queue) count(variable int) {
	q.counts[variable]++
	q.Rise(variable)
}

// fade is told of each conflict, so that what is long ago counts less. To halve
// all counts brings none ahead of one that was not behind it, so the heap stays
// right.
func (q *queue) fade() {
	q.conflicts++
	if q.conflicts < fadeAfter {
		return
	}
	q.conflicts = 0
	for variable := range q.counts {
		q.counts[variable] /= 2
	}
}
