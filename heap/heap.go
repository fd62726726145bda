// Package heap: things of which the one that comes first can be taken.
package heap

// Heap is a heap of things. It is told by its functions all that it has to know
// of them, so that they can be numbers whose order is kept elsewhere.
type Heap[T any] struct {
	// Ahead tells whether a comes ahead of b.
	Ahead func(a, b T) bool
	// Place gives where it is noted at which place a thing stands: 0 if it is
	// not in the heap, else counted from 1 on. The heap alone writes there.
	Place func(thing T) *int

	all []T
}

// Put puts a thing in, unless it is there.
func (h *Heap[T]) Put(thing T) {
	if *h.Place(thing) != 0 {
		return
	}
	h.all = append(h.all, thing)
	*h.Place(thing) = len(h.all)
	h.Rise(thing)
}

// Take takes out the thing that comes first; false, if there is none.
func (h *Heap[T]) Take() (T, bool) {
	var none T
	if len(h.all) == 0 {
		return none, false
	}
	first, last := h.all[0], len(h.all)
	h.swap(1, last)
	h.all[last-1] = none
	h.all = h.all[:last-1]
	*h.Place(first) = 0
	h.sink()
	return first, true
}

// Rise mends the heap when a thing comes ahead of more than it did. It does
// nothing if the thing is not there.
func (h *Heap[T]) Rise(thing T) {
	at := *h.Place(thing)
	for at > 1 && h.ahead(at, at/2) {
		h.swap(at, at/2)
		at /= 2
	}
}

// sink mends the heap when the thing at its first place may stand too far ahead.
func (h *Heap[T]) sink() {
	at := 1
	for 2*at <= len(h.all) {
		below := 2 * at
		if below < len(h.all) && h.ahead(below+1, below) {
			below++
		}
		if !h.ahead(below, at) {
			return
		}
		h.swap(at, below)
		at = below
	}
}

// ahead tells whether the thing at place a comes ahead of that at place b.
func (h *Heap[T]) ahead(a, b int) bool {
	return h.Ahead(h.all[a-1], h.all[b-1])
}

func (h *Heap[T]) swap(a, b int) {
	h.all[a-1], h.all[b-1] = h.all[b-1], h.all[a-1]
	*h.Place(h.all[a-1]) = a
	*h.Place(h.all[b-1]) = b
}
