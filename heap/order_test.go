package heap_test

import (
	"runtime"
	"slices"
	"testing"
	"weak"

	"fretsaw/heap"
)

// counter returns an order function that counts its calls.
func counter(calls *int) func(a, b item) bool {
	return func(a, b item) bool {
		*calls++
		return byKey(a, b)
	}
}

// P3.6: pushing and popping up to 1000 elements takes at most 40 n + 40 calls of the order function.
func TestCost(t *testing.T) {
	for n := 0; n <= 1000; n += 1 + n/20 {
		checkCost(t, n)
	}
	checkCost(t, 1000)
}

func checkCost(t *testing.T, n int) {
	t.Helper()
	for name, keys := range longKeys(n) {
		for way, use := range map[string]func(before func(a, b item) bool, l []item){
			"one by one":  pushAndPop,
			"interleaved": pushAndPopInTurns,
			"From":        func(before func(a, b item) bool, l []item) { drain(heap.From(before, l)) },
			"Sorted":      func(before func(a, b item) bool, l []item) { heap.Sorted(before, l) },
			"All":         func(before func(a, b item) bool, l []item) { runThrough(heap.From(before, l)) },
		} {
			calls := 0
			use(counter(&calls), items(keys))
			if calls > 40*n+40 {
				t.Errorf("%s, %d elements, %s: %d calls", name, n, way, calls)
			}
		}
	}
}

func pushAndPop(before func(a, b item) bool, l []item) {
	h := heap.New(before)
	for _, x := range l {
		h.Push(x)
	}
	drain(h)
}

// runThrough iterates over everything.
func runThrough[T any](h *heap.Heap[T]) {
	for range h.All() {
	}
}

// pushAndPopInTurns pushes two and pops one, and then pops the rest.
func pushAndPopInTurns(before func(a, b item) bool, l []item) {
	h := heap.New(before)
	for i, x := range l {
		h.Push(x)
		if i%2 == 1 {
			h.Pop()
		}
	}
	drain(h)
}

// P3.6: the calls grow with n log n, also for more elements: twice as many need little more than twice the calls.
func TestCostGrows(t *testing.T) {
	for _, name := range []string{"ascending", "descending", "equivalent", "mixed"} {
		last := 0
		for n := 1000; n <= 32000; n *= 2 {
			calls := 0
			pushAndPop(counter(&calls), items(longKeys(n)[name]))
			if last > 0 && calls > 5*last/2 {
				t.Errorf("%s: %d calls for %d elements, %d for half of them", name, calls, n, last)
			}
			last = calls
		}
	}
}

// P3.6: what needs no order calls no order function.
func TestNoCalls(t *testing.T) {
	calls := 0
	h := heap.New(counter(&calls))
	h.Push(item{1, 0})
	h.Pop()
	if calls != 0 {
		t.Errorf("%d calls for one element", calls)
	}
	h = heap.From(counter(&calls), items([]int{3, 1, 2}))
	calls = 0
	h.Peek()
	h.Len()
	h.Clone()
	h.All()
	if calls != 0 {
		t.Errorf("%d calls without a push or a pop", calls)
	}
}

// P3.1: the order function is called with pushed elements only, and never with one and itself.
func TestArgumentsOfOrderFunction(t *testing.T) {
	for keys := range smallKeys(6) {
		l := items(keys)
		heap.Sorted(func(a, b item) bool {
			if a == b || a != l[a.id] || b != l[b.id] {
				t.Fatalf("%v: compared %v with %v", l, a, b)
			}
			return byKey(a, b)
		}, l)
	}
}

// P1 and P3.3: a function that is no order, or that panics, leads to some order of all elements.
func TestNoOrder(t *testing.T) {
	next := generator(3)
	for name, before := range map[string]func(a, b item) bool{
		"always":         func(a, b item) bool { return true },
		"not descending": func(a, b item) bool { return a.key <= b.key },
		"circular":       func(a, b item) bool { return (b.key-a.key+3)%3 == 1 },
		"by chance":      func(a, b item) bool { return next(2) == 0 },
		"panics":         func(a, b item) bool { panic("order") },
		"panics often":   func(a, b item) bool { return a.key < b.key || []bool{false, true}[a.key+b.key] },
	} {
		for keys := range smallKeys(6) {
			l := items(keys)
			h := heap.From(before, l)
			for way, got := range map[string][]item{"Sorted": heap.Sorted(before, l), "All": slices.Collect(h.All()), "Pop": drain(h)} {
				slices.SortFunc(got, func(a, b item) int { return a.id - b.id })
				if !slices.Equal(got, l) {
					t.Fatalf("%s: %s of %v has %v", name, way, l, got)
				}
			}
		}
	}
}

// P1: elements that the order function does not tell apart, as it panics, are equivalent.
func TestPanicIsEquivalent(t *testing.T) {
	byTarget := func(a, b *int) bool { return *a < *b }
	one, two := 1, 2
	h := heap.From(byTarget, []*int{&two, &one})
	if x, ok := h.Pop(); x != &one || !ok {
		t.Error("pointers are not in order")
	}
	want := []*int{nil, &two, nil, nil}
	if l := heap.Sorted(byTarget, want); !slices.Equal(l, want) {
		t.Errorf("%v, want %v", l, want)
	}
}

// P1: nothing panics, and everything ends, if the order function uses the heap itself.
func TestOrderFunctionUsesHeap(t *testing.T) {
	for name, use := range map[string]func(h *heap.Heap[int]){
		"pop":   func(h *heap.Heap[int]) { h.Pop() },
		"drain": func(h *heap.Heap[int]) { drain(h) },
		"push":  func(h *heap.Heap[int]) { h.Push(-5) },
		"all":   runThrough[int],
	} {
		for at := range 30 {
			var h *heap.Heap[int]
			calls := 0
			h = heap.New(func(a, b int) bool {
				if calls++; calls == at {
					use(h)
				}
				return a < b
			})
			for _, n := range []int{6, 5, 4, 3, 2, 1, 0} {
				h.Push(n)
			}
			for range 20 {
				h.Pop()
			}
			if h.Len() != 0 {
				t.Errorf("%s at call %d: %d elements are left", name, at, h.Len())
			}
		}
	}
}

// A heap keeps nothing of what was popped (rule 8 of the language).
func TestPoppedIsNotKept(t *testing.T) {
	h := heap.New(func(a, b *[8]int) bool { return a[0] < b[0] })
	var popped []weak.Pointer[[8]int]
	for n := range 50 {
		x := &[8]int{n * 7 % 50}
		popped = append(popped, weak.Make(x))
		h.Push(x)
	}
	drain(h)
	runtime.GC()
	for _, p := range popped {
		if p.Value() != nil {
			t.Fatalf("%v is still kept by a heap of %d elements", p.Value(), h.Len())
		}
	}
	h.Push(&[8]int{})
}
