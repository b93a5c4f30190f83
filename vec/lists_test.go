package vec_test

import (
	"slices"
	"testing"

	"fretsaw/api"
	"fretsaw/vec"
)

// box returns the box with two corners.
func box(lowX, lowY, highX, highY int) api.Box {
	return api.Box{Lo: v(lowX, lowY), Hi: v(highX, highY)}
}

// lists are short lists of small vectors, and random ones.
func lists() [][]api.Vec {
	grid := []api.Vec{v(-1, -1), v(2, -1), v(0, 0), v(1, 0), v(-1, 1), v(0, 1), v(2, 2)}
	return slices.Concat(shortLists(grid, 4), randomLists())
}

// P6.1: known boxes: of no vectors, of one, of several that are equal, and of vectors at the bounds of int.
func TestKnownBoxes(t *testing.T) {
	for _, c := range []struct {
		l    []api.Vec
		want api.Box
		ok   bool
	}{
		{nil, box(0, 0, 0, 0), false}, {[]api.Vec{}, box(0, 0, 0, 0), false}, {[]api.Vec{v(0, 0)}, box(0, 0, 0, 0), true}, {[]api.Vec{v(3, -7)}, box(3, -7, 3, -7), true}, {[]api.Vec{v(-5, -6), v(-5, -6)}, box(-5, -6, -5, -6), true},
		{[]api.Vec{v(3, -1), v(-2, 5), v(0, 0)}, box(-2, -1, 3, 5), true}, {[]api.Vec{v(4, 9), v(6, 7)}, box(4, 7, 6, 9), true}, {[]api.Vec{v(6, 7), v(4, 9)}, box(4, 7, 6, 9), true}, {[]api.Vec{v(-4, -9), v(-6, -7), v(-5, -8)}, box(-6, -9, -4, -7), true}, {[]api.Vec{v(1, 2), v(1, 8)}, box(1, 2, 1, 8), true}, {[]api.Vec{v(8, 2), v(1, 2)}, box(1, 2, 8, 2), true},
		{[]api.Vec{v(bound, -bound), v(-bound, bound)}, box(-bound, -bound, bound, bound), true}, {[]api.Vec{v(least, 0)}, box(least, 0, least, 0), true}, {[]api.Vec{v(most, most), v(least, 3)}, box(least, 3, most, most), true}, {[]api.Vec{v(0, most), v(1, least)}, box(0, least, 1, most), true},
	} {
		if b, ok := vec.BoxOf(c.l); b != c.want || ok != c.ok {
			t.Errorf("the box of %v is %v, %v", c.l, b, ok)
		}
	}
}

// P6.6 and P6.1: the box of a list contains all its vectors, and there is one of them on each of its sides, so it is the least.
func TestBoxOf(t *testing.T) {
	for _, l := range lists() {
		b, ok := vec.BoxOf(l)
		if ok != (len(l) > 0) {
			t.Errorf("a box of %d vectors: %v", len(l), ok)
		}
		if !ok {
			continue
		}
		var left, bottom, right, top bool
		for _, a := range l {
			if !vec.InBox(b, a) {
				t.Errorf("%v is not in the box %v of %v", a, b, l)
			}
			left, bottom = left || a.X == b.Lo.X, bottom || a.Y == b.Lo.Y
			right, top = right || a.X == b.Hi.X, top || a.Y == b.Hi.Y
		}
		if !left || !bottom || !right || !top {
			t.Errorf("%v is not the least box of %v", b, l)
		}
	}
}

// P6.6: every box that contains all vectors of a list contains the corners of their box.
func TestBoxIsTheLeast(t *testing.T) {
	visited := 0
	corners := vectors([]int{-2, -1, 0, 1, 2})
	for _, l := range shortLists([]api.Vec{v(-1, -1), v(1, -1), v(0, 0), v(-1, 1), v(2, 1), v(1, 2)}, 3)[1:] {
		b, _ := vec.BoxOf(l)
		for _, lo := range corners {
			for _, hi := range corners {
				other := api.Box{Lo: lo, Hi: hi}
				if slices.ContainsFunc(l, func(a api.Vec) bool { return !vec.InBox(other, a) }) {
					continue
				}
				visited++
				if !vec.InBox(other, b.Lo) || !vec.InBox(other, b.Hi) {
					t.Errorf("%v contains %v, but not all of %v", other, l, b)
				}
			}
		}
	}
	if visited < 1000 {
		t.Errorf("only %d boxes were tried", visited)
	}
}

// P6.1: vectors inside, on each side, at each corner, and just outside of boxes.
func TestInBox(t *testing.T) {
	for _, b := range []api.Box{box(-2, -1, 3, 5), box(4, 4, 4, 4), box(7, -3, 7, 9), box(-5, 0, -1, 0), box(-bound, -bound, bound, bound)} {
		for _, x := range []int{b.Lo.X - 1, b.Lo.X, b.Hi.X, b.Hi.X + 1} {
			for _, y := range []int{b.Lo.Y - 1, b.Lo.Y, b.Hi.Y, b.Hi.Y + 1} {
				inside := x != b.Lo.X-1 && x != b.Hi.X+1 && y != b.Lo.Y-1 && y != b.Hi.Y+1
				if vec.InBox(b, v(x, y)) != inside {
					t.Errorf("%v in %v: %v", v(x, y), b, !inside)
				}
			}
		}
	}
	for _, c := range []struct {
		b    api.Box
		a    api.Vec
		want bool
	}{
		{box(-2, -1, 3, 5), v(0, 0), true}, {box(-2, -1, 3, 5), v(3, 2), true}, {box(-2, -1, 3, 5), v(0, -1), true}, {box(-2, -1, 3, 5), v(most, 0), false}, {box(-2, -1, 3, 5), v(0, least), false}, {box(-2, -1, 3, 5), v(5, 3), false}, {box(-2, -1, 3, 5), v(-1, -2), false},
		{box(0, 0, 0, 0), v(0, 0), true}, {box(0, 0, 0, 0), v(0, 1), false}, {box(0, 0, 0, 0), v(-1, 0), false}, {box(least, least, most, most), v(least, most), true}, {box(least, least, most, most), v(0, least), true}, {box(least, 0, -1, 0), v(most, 0), false},
	} {
		if vec.InBox(c.b, c.a) != c.want {
			t.Errorf("%v in %v: %v", c.a, c.b, !c.want)
		}
	}
}

// P6.1: a box whose Lo is greater than its Hi in a coordinate contains nothing, not even its corners.
func TestBoxesOfNothing(t *testing.T) {
	for _, b := range []api.Box{box(3, 5, -2, -1), box(3, -1, -2, 5), box(-2, 5, 3, -1), box(1, 0, 0, 0), box(0, 1, 0, 0), box(most, most, least, least), box(most, least, least, most), box(least, most, most, least)} {
		l := append(anyVectors(), b.Lo, b.Hi, v(b.Lo.X, b.Hi.Y), v(b.Hi.X, b.Lo.Y))
		for _, a := range append(l, vectors([]int{-3, -2, -1, 0, 1, 3, 4, 5, 6})...) {
			if vec.InBox(b, a) {
				t.Errorf("%v is in %v", a, b)
			}
		}
	}
}

// P6.1: known sorted lists: of no vectors, of one, and of several that are equal.
func TestKnownSorted(t *testing.T) {
	for _, c := range []struct{ l, want []api.Vec }{
		{nil, nil}, {[]api.Vec{}, nil}, {[]api.Vec{v(0, 0)}, []api.Vec{v(0, 0)}}, {[]api.Vec{v(-3, 8)}, []api.Vec{v(-3, 8)}}, {[]api.Vec{v(4, 4), v(4, 4)}, []api.Vec{v(4, 4)}}, {[]api.Vec{v(0, 0), v(0, 0), v(0, 0)}, []api.Vec{v(0, 0)}},
		{[]api.Vec{v(3, 0), v(0, 1), v(2, 0), v(0, 1), v(-1, 1)}, []api.Vec{v(2, 0), v(3, 0), v(-1, 1), v(0, 1)}}, {[]api.Vec{v(1, 2), v(2, 1)}, []api.Vec{v(2, 1), v(1, 2)}}, {[]api.Vec{v(2, 1), v(1, 2), v(2, 1)}, []api.Vec{v(2, 1), v(1, 2)}}, {[]api.Vec{v(1, 7), v(2, 7), v(1, 7), v(2, 7)}, []api.Vec{v(1, 7), v(2, 7)}}, {[]api.Vec{v(7, 2), v(7, 1), v(7, 2)}, []api.Vec{v(7, 1), v(7, 2)}},
		{[]api.Vec{v(0, most), v(most, least), v(least, least), v(1, 0)}, []api.Vec{v(least, least), v(most, least), v(1, 0), v(0, most)}}, {[]api.Vec{v(bound, -bound), v(-bound, bound), v(-bound, -bound)}, []api.Vec{v(-bound, -bound), v(bound, -bound), v(-bound, bound)}},
	} {
		if l := vec.Sorted(c.l); !slices.Equal(l, c.want) {
			t.Errorf("%v is sorted as %v", c.l, l)
		}
	}
}

// P6.1 and P6.5: a sorted list is strictly ascending, and has the vectors of the list and no others.
func TestSorted(t *testing.T) {
	for _, l := range append(lists(), anyVectors(), append(anyVectors(), anyVectors()...)) {
		sorted := vec.Sorted(l)
		for i := range len(sorted) - 1 {
			if rank(sorted[i]).Cmp(rank(sorted[i+1])) >= 0 {
				t.Errorf("%v is sorted as %v", l, sorted)
			}
		}
		for _, a := range l {
			if !slices.Contains(sorted, a) {
				t.Errorf("%v of %v is not in %v", a, l, sorted)
			}
		}
		for _, a := range sorted {
			if !slices.Contains(l, a) {
				t.Errorf("%v is not in %v, but in %v", a, l, sorted)
			}
		}
		if again := vec.Sorted(sorted); !slices.Equal(again, sorted) {
			t.Errorf("%v is sorted as %v", sorted, again)
		}
	}
}

// P1: no function changes its list, nor what lies behind it, and the results are the same again.
func TestListsAreKept(t *testing.T) {
	for _, l := range lists() {
		kept := append(slices.Clone(l), v(77, -77), v(-77, 77))
		given := slices.Clone(kept)
		b, ok := vec.BoxOf(given[:len(l)])
		sorted := vec.Sorted(given[:len(l)])
		if !slices.Equal(given, kept) {
			t.Errorf("%v is changed to %v", kept, given)
		}
		if again, okAgain := vec.BoxOf(given[:len(l)]); again != b || okAgain != ok {
			t.Errorf("the box of %v: %v and %v", l, b, again)
		}
		if again := vec.Sorted(given[:len(l)]); !slices.Equal(again, sorted) {
			t.Errorf("%v is sorted as %v and %v", l, sorted, again)
		}
	}
}

// P1: a sorted list shares no memory with the list, even if this is sorted already, nor with what lies behind it, nor with the result of another call.
func TestSortedIsNew(t *testing.T) {
	for _, l := range lists() {
		kept := append(vec.Sorted(l), v(77, -77), v(-77, 77))
		given := slices.Clone(kept)
		n := len(given) - 2
		sorted, other := vec.Sorted(given[:n]), vec.Sorted(given[:n])
		for i := range sorted {
			sorted[i] = v(99, 99)
		}
		_ = append(sorted, v(98, 98))
		if !slices.Equal(given, kept) || !slices.Equal(other, kept[:n]) {
			t.Errorf("%v is changed to %v, or %v, by a change of its sorted list", kept, given, other)
		}
	}
}
