package heap_test

import (
	"iter"
	"slices"

	"fretsaw/heap"
)

// item has a key, by which it is ordered, and an id, which tells equivalent items apart.
type item struct{ key, id int }

func byKey(a, b item) bool { return a.key < b.key }

// items returns items with the given keys, whose ids are their places.
func items(keys []int) []item {
	var l []item
	for i, key := range keys {
		l = append(l, item{key, i})
	}
	return l
}

// stableOrder returns the items in the order in which a heap must give them out.
func stableOrder(l []item) []item {
	sorted := slices.Clone(l)
	slices.SortStableFunc(sorted, func(a, b item) int { return a.key - b.key })
	return sorted
}

// smallKeys yields all lists of at most size keys from 0 to 2.
func smallKeys(size int) iter.Seq[[]int] {
	return func(yield func([]int) bool) {
		count := 1
		for n := 0; n <= size; n++ {
			for code := range count {
				keys := make([]int, n)
				for i, rest := 0, code; i < n; i, rest = i+1, rest/3 {
					keys[i] = rest % 3
				}
				if !yield(keys) {
					return
				}
			}
			count *= 3
		}
	}
}

// longKeys returns n keys in several arrangements.
func longKeys(n int) map[string][]int {
	m := map[string][]int{}
	next := generator(n)
	for i := range n {
		m["ascending"] = append(m["ascending"], i)
		m["descending"] = append(m["descending"], -i)
		m["equivalent"] = append(m["equivalent"], 7)
		m["up and down"] = append(m["up and down"], i*(1-i%2*2))
		m["two classes"] = append(m["two classes"], 1-i%2)
		m["few classes"] = append(m["few classes"], next(10))
		m["mixed"] = append(m["mixed"], next(1000000))
		m["saw"] = append(m["saw"], i%31)
	}
	return m
}

// generator returns a function that returns numbers from 0 to below a bound, the same ones in each run.
func generator(seed int) func(bound int) int {
	state := uint64(seed)*2862933555777941757 + 3037000493
	return func(bound int) int {
		state = state*6364136223846793005 + 1442695040888963407
		return int(state >> 33 % uint64(bound))
	}
}

// model is a slow heap: the items in the order in which they were pushed.
type model []item

// first returns the place of the first item that no other one is before.
func (m model) first() int {
	best := 0
	for i := range m {
		if byKey(m[i], m[best]) {
			best = i
		}
	}
	return best
}

func (m model) peek() (item, bool) {
	if len(m) == 0 {
		return item{}, false
	}
	return m[m.first()], true
}

func (m *model) pop() (item, bool) {
	x, ok := m.peek()
	if ok {
		i := m.first()
		*m = slices.Delete(*m, i, i+1)
	}
	return x, ok
}

// pushed returns a heap to which items were pushed one by one.
func pushed(l []item) *heap.Heap[item] {
	h := heap.New(byKey)
	for _, x := range l {
		h.Push(x)
	}
	return h
}

// drain pops everything.
func drain[T any](h *heap.Heap[T]) []T {
	var l []T
	for x, ok := h.Pop(); ok; x, ok = h.Pop() {
		l = append(l, x)
	}
	return l
}
