package heap

// An entry is an element with the number of elements that were pushed earlier, which keeps equivalent elements in order.
type entry[T any] struct {
	value  T
	number uint64
}

// raiseLast moves the last entry up to its place. Here and in lowerFirst, the list is in a variable of the call,
// so that its length stays the same even if the order function itself changes the heap.
func (h *Heap[T]) raiseLast() {
	l := h.entries
	for i := len(l) - 1; i > 0; {
		parent := (i - 1) / 2
		if !h.ahead(l[i], l[parent]) {
			return
		}
		l[i], l[parent] = l[parent], l[i]
		i = parent
	}
}

// lowerFirst moves the first entry down to its place.
func (h *Heap[T]) lowerFirst() {
	l := h.entries
	for i := 0; 2*i+1 < len(l); {
		child := 2*i + 1
		if child+1 < len(l) && h.ahead(l[child+1], l[child]) {
			child++
		}
		if !h.ahead(l[child], l[i]) {
			return
		}
		l[i], l[child] = l[child], l[i]
		i = child
	}
}

// ahead reports whether an entry comes out ahead of another one. One call of the order function is enough:
// the one that was pushed earlier goes first unless the other one is before it.
func (h *Heap[T]) ahead(a, b entry[T]) bool {
	if a.number < b.number {
		return !h.isBefore(b.value, a.value)
	}
	return h.isBefore(a.value, b.value)
}

// isBefore calls the order function. If that panics, the answer is no, so that the heap keeps all of its elements.
func (h *Heap[T]) isBefore(a, b T) (yes bool) {
	defer func() { _ = recover() }()
	return h.before(a, b)
}
