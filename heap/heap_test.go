package heap_test

import (
	"slices"
	"testing"

	"fretsaw/heap"
)

// P3.1 and P3.2: the example of the chapter.
func TestExample(t *testing.T) {
	byTens := func(a, b int) bool { return a/10 < b/10 }
	h := heap.New(byTens)
	for _, n := range []int{25, 13, 21, 11} {
		h.Push(n)
	}
	want := []int{13, 11, 25, 21}
	if l := heap.Sorted(byTens, []int{25, 13, 21, 11}); !slices.Equal(l, want) {
		t.Errorf("sorted: %v, want %v", l, want)
	}
	if l := drain(h); !slices.Equal(l, want) {
		t.Errorf("popped: %v, want %v", l, want)
	}
}

// P3.2, P3.3 and P3.4: every way to get the elements of every small list out again.
func TestSmallLists(t *testing.T) {
	for keys := range smallKeys(7) {
		checkWays(t, items(keys))
	}
}

// P3.2, P3.3 and P3.4: the same for long lists.
func TestLongLists(t *testing.T) {
	for _, n := range []int{8, 9, 15, 16, 17, 100, 1000, 3000} {
		for _, keys := range longKeys(n) {
			checkWays(t, items(keys))
		}
	}
}

func checkWays(t *testing.T, l []item) {
	t.Helper()
	want := stableOrder(l)
	h := pushed(l)
	for way, got := range map[string][]item{
		"All":           slices.Collect(h.All()),
		"All of From":   slices.Collect(heap.From(byKey, l).All()),
		"Sorted":        heap.Sorted(byKey, l),
		"Pop of Clone":  drain(h.Clone()),
		"Pop of From":   drain(heap.From(byKey, l)),
		"Pop":           drain(h),
		"Pop of pushed": drain(pushed(l)),
	} {
		if !slices.Equal(got, want) {
			t.Fatalf("%s of %v: %v, want %v", way, l, got, want)
		}
	}
	if h.Len() != 0 {
		t.Fatalf("%v: %d elements are left", l, h.Len())
	}
}

// P3.1, P3.2 and P3.5: sequences of calls, on heaps and on their clones, have the results of a slow heap.
func TestSequences(t *testing.T) {
	for seed := range 60 {
		next := generator(seed)
		h, m := heap.New(byKey), model{}
		other, otherModel := h.Clone(), model{}
		pushes := 2 + next(4)
		for id := range 400 {
			switch n := next(8); {
			case n < pushes:
				x := item{next(1 + seed), id}
				h.Push(x)
				m = append(m, x)
			case n == 7 && next(4) == 0:
				other, otherModel = h.Clone(), slices.Clone(m)
			case n == 7:
				h, m, other, otherModel = other, otherModel, h, m
			default:
				checkPop(t, h, &m)
			}
			checkState(t, h, m)
		}
		checkRest(t, h, m)
	}
}

func checkPop(t *testing.T, h *heap.Heap[item], m *model) {
	t.Helper()
	want, wantOK := m.pop()
	if x, ok := h.Pop(); x != want || ok != wantOK {
		t.Fatalf("popped %v %v, want %v %v", x, ok, want, wantOK)
	}
}

func checkState(t *testing.T, h *heap.Heap[item], m model) {
	t.Helper()
	want, wantOK := m.peek()
	if x, ok := h.Peek(); x != want || ok != wantOK || h.Len() != len(m) {
		t.Fatalf("first %v %v of %d, want %v %v of %d", x, ok, h.Len(), want, wantOK, len(m))
	}
}

func checkRest(t *testing.T, h *heap.Heap[item], m model) {
	t.Helper()
	if l := slices.Collect(h.All()); !slices.Equal(l, stableOrder(m)) {
		t.Fatalf("all of the rest: %v, want %v", l, stableOrder(m))
	}
	for range len(m) + 2 {
		checkPop(t, h, &m)
		checkState(t, h, m)
	}
}

// P3.2: an element that is pushed behind pops comes behind all equivalent ones that are left.
func TestEquivalentBehindPops(t *testing.T) {
	for size := range 20 {
		h, m := heap.New(byKey), model{}
		for id := range 200 {
			x := item{3, id}
			h.Push(x)
			m = append(m, x)
			if len(m) > size {
				checkPop(t, h, &m)
			}
		}
		checkRest(t, h, m)
	}
}

// P3.3: what is popped and what is left are together what was pushed.
func TestContents(t *testing.T) {
	for _, keys := range longKeys(500) {
		l := items(keys)
		h := heap.From(byKey, l)
		for i := range l {
			x, ok := h.Pop()
			if !ok || h.Len() != len(l)-i-1 {
				t.Fatalf("pop %d: %v, %d left", i, ok, h.Len())
			}
			if x != l[x.id] {
				t.Fatalf("%v was not pushed, or was popped already", x)
			}
			l[x.id] = item{-1, -1}
		}
		if _, ok := h.Pop(); ok {
			t.Fatal("more was popped than pushed")
		}
	}
}

// P3.1: empty heaps return zero elements, also if they had elements.
func TestEmpty(t *testing.T) {
	checkEmpty(t, heap.New(func(a, b int) bool { return a < b }), 5, 3)
	checkEmpty(t, heap.From(func(a, b string) bool { return a < b }, nil), "b", "a")
	checkEmpty(t, heap.From(byKey, []item{}), item{1, 1}, item{0, 2})
	checkEmpty(t, heap.New(func(a, b *item) bool { return byKey(*a, *b) }), &item{1, 1}, &item{0, 2})
	if l := heap.Sorted(byKey, nil); len(l) != 0 {
		t.Errorf("nothing, sorted: %v", l)
	}
}

func checkEmpty[T comparable](t *testing.T, h *heap.Heap[T], elements ...T) {
	t.Helper()
	var zero T
	for range 3 {
		x, ok := h.Pop()
		y, there := h.Peek()
		if ok || there || x != zero || y != zero || h.Len() != 0 || len(slices.Collect(h.All())) != 0 {
			t.Errorf("an empty heap has %v %v, %v %v, %d", x, ok, y, there, h.Len())
		}
		if c := h.Clone(); c == nil || c.Len() != 0 {
			t.Error("an empty heap has no clone, or one that is not empty")
		}
		for _, x := range elements {
			h.Push(x)
		}
		if l := drain(h); len(l) != len(elements) {
			t.Errorf("%d of %d elements are popped", len(l), len(elements))
		}
	}
}

// P3.1: zero elements are elements.
func TestZeroElements(t *testing.T) {
	h := heap.From(func(a, b int) bool { return a < b }, []int{0, 1, 0})
	for _, want := range []int{0, 0, 1} {
		if x, ok := h.Pop(); x != want || !ok {
			t.Errorf("popped %d %v, want %d", x, ok, want)
		}
	}
	pointers := heap.New(func(a, b *int) bool { return false })
	pointers.Push(nil)
	if x, ok := pointers.Peek(); x != nil || !ok || pointers.Len() != 1 {
		t.Errorf("a nil element: %v %v of %d", x, ok, pointers.Len())
	}
}

// P3.1: elements may be of types that cannot be compared.
func TestElementsOfAnyType(t *testing.T) {
	shorter := func(a, b []int) bool { return len(a) < len(b) }
	l := heap.Sorted(shorter, [][]int{{1, 2}, nil, {3}, {4, 5}})
	if len(l) != 4 || l[0] != nil || l[1][0] != 3 || l[2][0] != 1 || l[3][0] != 4 {
		t.Errorf("lists: %v", l)
	}
	calls := heap.New(func(a, b func() int) bool { return a() < b() })
	for _, n := range []int{3, 1, 2} {
		calls.Push(func() int { return n })
	}
	if first, ok := calls.Pop(); !ok || first() != 1 {
		t.Error("functions are not in order")
	}
}

// P3.1: without an order function there is no heap.
func TestNoOrderFunction(t *testing.T) {
	if heap.New[int](nil) != nil || heap.From(nil, []int{2, 1}) != nil || heap.From[int](nil, nil) != nil {
		t.Error("there is a heap without an order function")
	}
	if l := heap.Sorted(nil, []int{2, 1}); len(l) != 0 {
		t.Errorf("sorted without an order function: %v", l)
	}
}

// P3.1 and P1: nil heaps, and zero ones, which have no order function either, stay empty.
func TestNilHeap(t *testing.T) {
	var none *heap.Heap[int]
	for _, h := range []*heap.Heap[int]{none, {}} {
		h.Push(3)
		x, ok := h.Pop()
		y, there := h.Peek()
		if x != 0 || ok || y != 0 || there || h.Len() != 0 || h.Clone().Len() != 0 {
			t.Errorf("a heap without an order function has %d %v, %d %v, %d", x, ok, y, there, h.Len())
		}
		for x := range h.All() {
			t.Errorf("it iterates over %d", x)
		}
	}
	if none.Clone() != nil {
		t.Error("a nil heap has a clone")
	}
}

// P1: the same calls lead to the same results.
func TestAgain(t *testing.T) {
	l := items(longKeys(200)["few classes"])
	h := heap.From(byKey, l)
	first := slices.Collect(h.All())
	for range 3 {
		if !slices.Equal(slices.Collect(h.All()), first) || !slices.Equal(heap.Sorted(byKey, l), first) {
			t.Error("the same calls lead to different results")
		}
	}
}
