package heap_test

import (
	"slices"
	"testing"

	"fretsaw/heap"
)

// P3.4: an iteration that is stopped has had the first elements, and the heap still has all of them.
func TestStopEarly(t *testing.T) {
	l := items(longKeys(40)["few classes"])
	want := stableOrder(l)
	h := heap.From(byKey, l)
	for stop := range want {
		var got []item
		for x := range h.All() {
			got = append(got, x)
			if len(got) == stop+1 {
				break
			}
		}
		if !slices.Equal(got, want[:stop+1]) || h.Len() != len(l) {
			t.Fatalf("stopped behind %d: %v, %d left; want %v", stop+1, got, h.Len(), want[:stop+1])
		}
	}
	if got := drain(h); !slices.Equal(got, want) {
		t.Errorf("popped behind iterations: %v, want %v", got, want)
	}
}

// P3.4: the loop is not called again behind its end.
func TestNoCallBehindStop(t *testing.T) {
	calls := 0
	heap.From(byKey, items([]int{2, 1, 3})).All()(func(item) bool {
		calls++
		return calls < 2
	})
	if calls != 2 {
		t.Errorf("%d calls, want 2", calls)
	}
}

// P3.4: an iteration that has begun goes on as it would have, whatever happens to the heap.
func TestChangeDuringIteration(t *testing.T) {
	l := items([]int{4, 2, 5, 2, 9, 0, 4})
	for name, change := range map[string]func(h *heap.Heap[item]){
		"push first": func(h *heap.Heap[item]) { h.Push(item{-1, 99}) },
		"push last":  func(h *heap.Heap[item]) { h.Push(item{10, 99}) },
		"push both":  func(h *heap.Heap[item]) { h.Push(item{10, 99}); h.Push(item{-1, 98}) },
		"pop":        func(h *heap.Heap[item]) { h.Pop() },
		"pop all":    func(h *heap.Heap[item]) { drain(h) },
		"replace":    func(h *heap.Heap[item]) { h.Pop(); h.Push(item{3, 99}) },
		"look":       func(h *heap.Heap[item]) { h.Peek(); h.Len(); h.Clone().Pop() },
	} {
		h, expected := heap.From(byKey, l), heap.From(byKey, l)
		var got []item
		for x := range h.All() {
			change(h)
			got = append(got, x)
		}
		if !slices.Equal(got, stableOrder(l)) {
			t.Errorf("%s: %v, want %v", name, got, stableOrder(l))
		}
		for range l {
			change(expected)
		}
		if left, want := drain(h), drain(expected); !slices.Equal(left, want) {
			t.Errorf("%s: %v is left, want %v", name, left, want)
		}
	}
}

// P3.4: an iteration begins with its loop, and each one has the elements that the heap then has.
func TestIterationsOfOneSequence(t *testing.T) {
	h := heap.From(byKey, items([]int{3, 1}))
	all := h.All()
	for _, want := range [][]item{{{1, 1}, {3, 0}}, {{1, 1}, {3, 0}, {5, 10}}, {{1, 1}, {3, 0}, {5, 10}, {5, 11}}} {
		for range 2 {
			if got := slices.Collect(all); !slices.Equal(got, want) {
				t.Errorf("%v, want %v", got, want)
			}
		}
		h.Push(item{5, 8 + len(want)})
	}
	drain(h)
	if got := slices.Collect(all); len(got) != 0 {
		t.Errorf("an empty heap iterates over %v", got)
	}
}

// P3.4: iterations within each other do not disturb each other.
func TestNestedIterations(t *testing.T) {
	h := heap.From(byKey, items([]int{2, 0, 1}))
	all := h.All()
	var got []int
	for x := range all {
		for y := range all {
			got = append(got, 10*x.key+y.key)
		}
	}
	if want := []int{0, 1, 2, 10, 11, 12, 20, 21, 22}; !slices.Equal(got, want) || h.Len() != 3 {
		t.Errorf("%v, want %v", got, want)
	}
}

// P3.4: a panic in the loop leaves the heap as it is, and reaches whoever wrote the loop.
func TestPanicInLoop(t *testing.T) {
	l := items([]int{2, 0, 1})
	h := heap.From(byKey, l)
	func() {
		defer func() {
			if recover() != "loop" {
				t.Error("the panic of the loop is lost")
			}
		}()
		for range h.All() {
			panic("loop")
		}
	}()
	if got := drain(h); !slices.Equal(got, stableOrder(l)) {
		t.Errorf("%v is left, want %v", got, stableOrder(l))
	}
}

// P3.5: a heap and its clones have the same elements, in the same order, and change apart from each other.
func TestClones(t *testing.T) {
	for n := range 20 {
		l := items(longKeys(n)["two classes"])
		h := heap.From(byKey, l)
		h.Push(item{0, n})
		h.Pop()
		kept := slices.Collect(h.All())
		first, second := h.Clone(), h.Clone()
		h.Push(item{0, 100})
		first.Push(item{0, 200})
		first.Push(item{1, 201})
		second.Pop()
		second.Push(item{-1, 300})
		third := first.Clone()
		drain(first)
		for name, c := range map[string]struct {
			h    *heap.Heap[item]
			want []item
		}{
			"heap":          {h, stableOrder(append(slices.Clone(kept), item{0, 100}))},
			"second":        {second, stableOrder(append(slices.Clone(kept[min(1, n):]), item{-1, 300}))},
			"clone's clone": {third, stableOrder(append(slices.Clone(kept), item{0, 200}, item{1, 201}))},
		} {
			if got := drain(c.h); !slices.Equal(got, c.want) {
				t.Errorf("%s of %d: %v, want %v", name, n, got, c.want)
			}
		}
	}
}

// P3.5: a clone goes on counting, so that later elements come behind equivalent ones that it has already.
func TestCloneKeepsOrder(t *testing.T) {
	h := heap.New(byKey)
	for id := range 9 {
		h.Push(item{1, id})
		c := h.Clone()
		c.Push(item{1, 50})
		c.Push(item{1, 51})
		var ids []int
		for _, x := range drain(c) {
			ids = append(ids, x.id)
		}
		if want := append([]int{0, 1, 2, 3, 4, 5, 6, 7, 8}[:id+1:id+1], 50, 51); !slices.Equal(ids, want) {
			t.Errorf("%v, want %v", ids, want)
		}
	}
}

// P3.5: lists are not changed, also behind their ends, and heaps do not change with them.
func TestListsShareNothing(t *testing.T) {
	for _, keys := range [][]int{{}, {3}, {3, 1}, {2, 2, 1}, {5, 4, 3, 2, 1, 0}, {0, 1, 2, 3}} {
		whole := append(items(keys), item{70, 70}, item{71, 71}, item{72, 72})
		kept := slices.Clone(whole)
		l := whole[:len(keys)]
		want := stableOrder(l)
		h := heap.From(byKey, l)
		h.Push(item{80, 80})
		c := h.Clone()
		sorted := heap.Sorted(byKey, l)
		drain(h)
		if !slices.Equal(whole, kept) {
			t.Fatalf("%v becomes %v", kept, whole)
		}
		clear(whole)
		if got := drain(c); !slices.Equal(got, append(slices.Clone(want), item{80, 80})) || !slices.Equal(sorted, want) {
			t.Fatalf("%v changes with the list: %v, %v", kept, got, sorted)
		}
		copy(whole, kept)
		sorted = heap.Sorted(byKey, l)
		clear(sorted[:cap(sorted)])
		if !slices.Equal(whole, kept) {
			t.Fatalf("%v changes with its sorted list: %v", kept, whole)
		}
	}
}
