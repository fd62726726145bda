package heap

import (
	"math/rand"
	"slices"
	"testing"
)

type person struct {
	name  string
	age   int
	place int
}

// eldest is a heap whose things note their places themselves.
func eldest() *Heap[*person] {
	return &Heap[*person]{
		Ahead: func(a, b *person) bool { return a.age > b.age },
		Place: func(p *person) *int { return &p.place },
	}
}

// wantRight looks at all that must hold between any two calls.
func wantRight[T any](t *testing.T, h *Heap[T]) {
	t.Helper()
	for i, thing := range h.all {
		if *h.Place(thing) != i+1 {
			t.Fatalf("at place %d stands what is noted at %d", i+1, *h.Place(thing))
		}
		if i > 0 && h.Ahead(thing, h.all[(i+1)/2-1]) {
			t.Fatalf("place %d comes ahead of the one above it", i+1)
		}
	}
}

func TestThingsComeInTheirOrder(t *testing.T) {
	h := eldest()
	for _, p := range []*person{{name: "b", age: 30}, {name: "d", age: 10}, {name: "a", age: 40}, {name: "c", age: 20}} {
		h.Put(p)
		wantRight(t, h)
	}
	for _, name := range []string{"a", "b", "c", "d"} {
		p, found := h.Take()
		if !found || p.name != name || p.place != 0 {
			t.Errorf("Take = %v, %t, want %s", p, found, name)
		}
		wantRight(t, h)
	}
}

func TestNothingComesOfAnEmptyHeap(t *testing.T) {
	h := eldest()
	for range 2 {
		if p, found := h.Take(); p != nil || found {
			t.Errorf("Take = %v, %t", p, found)
		}
	}
	h.Put(&person{name: "a"})
	h.Take()
	if p, found := h.Take(); p != nil || found {
		t.Errorf("Take = %v, %t", p, found)
	}
}

func TestWhatWasTakenIsNotHeldOnTo(t *testing.T) {
	h := eldest()
	h.Put(&person{name: "a", age: 2})
	h.Put(&person{name: "b", age: 1})
	h.Take()
	if h.all[:2][1] != nil {
		t.Error("the heap still has what was taken")
	}
}

func TestAThingIsThereOnce(t *testing.T) {
	h := eldest()
	p := &person{name: "a"}
	h.Put(p)
	h.Put(p)
	h.Take()
	if _, found := h.Take(); found {
		t.Error("what was put in twice came out twice")
	}
	h.Put(p)
	if again, found := h.Take(); !found || again != p {
		t.Error("what was taken can be put in again")
	}
}

func TestRise(t *testing.T) {
	h := eldest()
	a, b, c := &person{name: "a", age: 3}, &person{name: "b", age: 2}, &person{name: "c", age: 1}
	for _, p := range []*person{a, b} {
		h.Put(p)
	}
	c.age = 9
	h.Rise(c)
	if c.place != 0 || len(h.all) != 2 {
		t.Error("what is not there does not rise")
	}
	b.age = 5
	h.Rise(b)
	wantRight(t, h)
	if p, _ := h.Take(); p != b {
		t.Errorf("%v came first", p)
	}
}

// What a heap does is held against a list that is looked through.
func TestRandomCalls(t *testing.T) {
	chance := rand.New(rand.NewSource(1))
	weights, places := make([]int, 40), make([]int, 40)
	h := &Heap[int]{
		Ahead: func(a, b int) bool { return weights[a] > weights[b] },
		Place: func(n int) *int { return &places[n] },
	}
	var list []int
	for range 50000 {
		n := chance.Intn(len(weights))
		switch chance.Intn(3) {
		case 0:
			if !slices.Contains(list, n) {
				weights[n] = chance.Intn(100)
				list = append(list, n)
			}
			h.Put(n)
		case 1:
			weights[n] += chance.Intn(20)
			h.Rise(n)
		default:
			first, found := h.Take()
			if found != (len(list) > 0) {
				t.Fatalf("Take = %d, %t, of %d", first, found, list)
			}
			if !found {
				continue
			}
			if !slices.Contains(list, first) {
				t.Fatalf("%d is not there", first)
			}
			for _, other := range list {
				if weights[other] > weights[first] {
					t.Fatalf("%d comes ahead of %d", other, first)
				}
			}
			list = slices.DeleteFunc(list, func(other int) bool { return other == first })
		}
		wantRight(t, h)
	}
}
