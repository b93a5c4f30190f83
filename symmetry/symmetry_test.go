package symmetry_test

import (
	"slices"
	"testing"

	"fretsaw/api"
	"fretsaw/symmetry"
)

// P9.1: the examples of the chapter.
func TestExamples(t *testing.T) {
	for n, want := range map[int]api.Vec{1: v(-1, 3), 4: v(-3, 1), 5: v(-1, -3)} {
		if a := symmetry.Vec(n, v(3, 1)); a != want {
			t.Errorf("%d maps (3, 1) to %v", n, a)
		}
	}
	if symmetry.Then(4, 1) != 5 || symmetry.Then(1, 4) != 7 {
		t.Errorf("4 and then 1 is %d, 1 and then 4 is %d", symmetry.Then(4, 1), symmetry.Then(1, 4))
	}
}

// P9.1: the numbers from 0 to 7 are symmetries, and no others.
func TestValid(t *testing.T) {
	for n := range symmetry.Count {
		if !symmetry.Valid(n) {
			t.Errorf("%d is no symmetry", n)
		}
	}
	for _, n := range notSymmetries() {
		if symmetry.Valid(n) {
			t.Errorf("%d is a symmetry", n)
		}
	}
}

// P9.1: known vectors, mapped by each symmetry; the least int is its own opposite.
func TestKnownVectors(t *testing.T) {
	for _, c := range []struct {
		a    api.Vec
		want [8]api.Vec
	}{
		{v(3, 1), [8]api.Vec{v(3, 1), v(-1, 3), v(-3, -1), v(1, -3), v(-3, 1), v(-1, -3), v(3, -1), v(1, 3)}},
		{v(-2, 7), [8]api.Vec{v(-2, 7), v(-7, -2), v(2, -7), v(7, 2), v(2, 7), v(-7, 2), v(-2, -7), v(7, -2)}},
		{v(0, 0), [8]api.Vec{}},
		{v(5, 0), [8]api.Vec{v(5, 0), v(0, 5), v(-5, 0), v(0, -5), v(-5, 0), v(0, -5), v(5, 0), v(0, 5)}},
		{v(0, -5), [8]api.Vec{v(0, -5), v(5, 0), v(0, 5), v(-5, 0), v(0, -5), v(5, 0), v(0, 5), v(-5, 0)}},
		{v(limit, -limit), [8]api.Vec{v(limit, -limit), v(limit, limit), v(-limit, limit), v(-limit, -limit), v(-limit, -limit), v(limit, -limit), v(limit, limit), v(-limit, limit)}},
		{v(least, 0), [8]api.Vec{v(least, 0), v(0, least), v(least, 0), v(0, least), v(least, 0), v(0, least), v(least, 0), v(0, least)}},
		{v(least, most), [8]api.Vec{v(least, most), v(-most, least), v(least, -most), v(most, least), v(least, most), v(-most, least), v(least, -most), v(most, least)}},
		{v(most, least), [8]api.Vec{v(most, least), v(least, most), v(-most, least), v(least, -most), v(-most, least), v(least, -most), v(most, least), v(least, most)}},
	} {
		for n, want := range c.want {
			if a := symmetry.Vec(n, c.a); a != want {
				t.Errorf("%d maps %v to %v, want %v", n, c.a, a, want)
			}
		}
	}
}

// P9.1: vectors of all sizes, mapped step by step; numbers that are no symmetry change nothing.
func TestVec(t *testing.T) {
	for _, a := range append(vectors(), fewVectors()...) {
		for n := range symmetry.Count {
			if b := symmetry.Vec(n, a); b != image(n, a) {
				t.Errorf("%d maps %v to %v", n, a, b)
			}
		}
		for _, n := range notSymmetries() {
			if b := symmetry.Vec(n, a); b != a {
				t.Errorf("%d maps %v to %v", n, a, b)
			}
		}
	}
}

// P9.1: boxes, also ones of one point, and ones whose corners are not in order, mapped by each symmetry.
func TestKnownBoxes(t *testing.T) {
	for _, c := range []struct {
		b    api.Box
		want [8]api.Box
	}{
		{box(1, 2, 5, 3), [8]api.Box{box(1, 2, 5, 3), box(-3, 1, -2, 5), box(-5, -3, -1, -2), box(2, -5, 3, -1), box(-5, 2, -1, 3), box(-3, -5, -2, -1), box(1, -3, 5, -2), box(2, 1, 3, 5)}},
		{box(5, 2, 1, 3), [8]api.Box{box(1, 2, 5, 3), box(-3, 1, -2, 5), box(-5, -3, -1, -2), box(2, -5, 3, -1), box(-5, 2, -1, 3), box(-3, -5, -2, -1), box(1, -3, 5, -2), box(2, 1, 3, 5)}},
		{box(5, 3, 1, 2), [8]api.Box{box(1, 2, 5, 3), box(-3, 1, -2, 5), box(-5, -3, -1, -2), box(2, -5, 3, -1), box(-5, 2, -1, 3), box(-3, -5, -2, -1), box(1, -3, 5, -2), box(2, 1, 3, 5)}},
		{box(4, -6, 4, -6), [8]api.Box{box(4, -6, 4, -6), box(6, 4, 6, 4), box(-4, 6, -4, 6), box(-6, -4, -6, -4), box(-4, -6, -4, -6), box(6, -4, 6, -4), box(4, 6, 4, 6), box(-6, 4, -6, 4)}},
		{box(least, 0, most, 1), [8]api.Box{box(least, 0, most, 1), box(-1, least, 0, most), box(least, -1, -most, 0), box(0, least, 1, -most), box(least, 0, -most, 1), box(-1, least, 0, -most), box(least, -1, most, 0), box(0, least, 1, most)}},
		{box(least, least, most, most), [8]api.Box{box(least, least, most, most), box(least, least, -most, most), box(least, least, -most, -most), box(least, least, most, -most), box(least, least, -most, most), box(least, least, -most, -most), box(least, least, most, -most), box(least, least, most, most)}},
	} {
		for n, want := range c.want {
			if b := symmetry.Box(n, c.b); b != want {
				t.Errorf("%d maps %v to %v, want %v", n, c.b, b, want)
			}
		}
	}
}

// P9.1: the least box of all four mapped corners; numbers that are no symmetry leave any box as it is, even if its corners are not in order.
func TestBox(t *testing.T) {
	for _, b := range boxes() {
		for n := range symmetry.Count {
			if c := symmetry.Box(n, b); c != mappedBox(n, b) {
				t.Errorf("%d maps %v to %v", n, b, c)
			}
		}
		for _, n := range notSymmetries() {
			if c := symmetry.Box(n, b); c != b {
				t.Errorf("%d maps %v to %v", n, b, c)
			}
		}
	}
}

// P9.1: Then of all pairs of symmetries, and 0 if one of them is none.
func TestKnownThen(t *testing.T) {
	table := [8][8]int{{0, 1, 2, 3, 4, 5, 6, 7}, {1, 2, 3, 0, 7, 4, 5, 6}, {2, 3, 0, 1, 6, 7, 4, 5}, {3, 0, 1, 2, 5, 6, 7, 4}, {4, 5, 6, 7, 0, 1, 2, 3}, {5, 6, 7, 4, 3, 0, 1, 2}, {6, 7, 4, 5, 2, 3, 0, 1}, {7, 4, 5, 6, 1, 2, 3, 0}}
	for n, row := range table {
		for m, want := range row {
			if got := symmetry.Then(n, m); got != want {
				t.Errorf("%d and then %d is %d, want %d", n, m, got, want)
			}
		}
	}
	for _, n := range notSymmetries() {
		for _, m := range someNumbers() {
			if symmetry.Then(n, m) != 0 || symmetry.Then(m, n) != 0 {
				t.Errorf("%d and then %d is %d, the other way round %d", n, m, symmetry.Then(n, m), symmetry.Then(m, n))
			}
		}
	}
}

// P9.1: Inverse, Odd and Mirrors of each symmetry, and of numbers that are none.
func TestKinds(t *testing.T) {
	inverse := [8]int{0, 3, 2, 1, 4, 5, 6, 7}
	odd := [8]bool{1: true, 3: true, 5: true, 7: true}
	mirrors := [8]bool{4: true, 5: true, 6: true, 7: true}
	for n := range symmetry.Count {
		if symmetry.Inverse(n) != inverse[n] || symmetry.Odd(n) != odd[n] || symmetry.Mirrors(n) != mirrors[n] {
			t.Errorf("%d: inverse %d, odd %v, mirrors %v", n, symmetry.Inverse(n), symmetry.Odd(n), symmetry.Mirrors(n))
		}
	}
	for _, n := range notSymmetries() {
		if symmetry.Inverse(n) != 0 || symmetry.Odd(n) || symmetry.Mirrors(n) {
			t.Errorf("%d: inverse %d, odd %v, mirrors %v", n, symmetry.Inverse(n), symmetry.Odd(n), symmetry.Mirrors(n))
		}
	}
}

// P9.1: the grain of each direction, and of numbers that are none, with each symmetry, and with numbers that are none.
func TestKnownGrain(t *testing.T) {
	const x, y = api.GrainX, api.GrainY
	for n, want := range [8][2]int{{x, y}, {y, x}, {x, y}, {y, x}, {x, y}, {y, x}, {x, y}, {y, x}} {
		if symmetry.Grain(n, x) != want[0] || symmetry.Grain(n, y) != want[1] {
			t.Errorf("behind %d: %d and %d", n, symmetry.Grain(n, x), symmetry.Grain(n, y))
		}
	}
	for _, n := range someNumbers() {
		for _, g := range notDirections() {
			if h := symmetry.Grain(n, g); h != api.GrainNone {
				t.Errorf("%d, behind %d: %d", g, n, h)
			}
		}
	}
	for _, n := range notSymmetries() {
		for _, g := range []int{x, y} {
			if h := symmetry.Grain(n, g); h != api.GrainNone {
				t.Errorf("%d, behind %d: %d", g, n, h)
			}
		}
	}
}

// P9.1: known rings, mapped by each symmetry: the lowest vertex is the first one, and of the lowest ones the leftmost.
func TestKnownRings(t *testing.T) {
	for _, c := range []struct {
		r    api.Ring
		want [8]api.Ring
	}{
		{list(0, 0, 4, 0, 0, 2), [8]api.Ring{
			list(0, 0, 4, 0, 0, 2), list(-2, 0, 0, 0, 0, 4), list(0, -2, 0, 0, -4, 0), list(0, -4, 2, 0, 0, 0),
			list(-4, 0, 0, 0, 0, 2), list(0, -4, 0, 0, -2, 0), list(0, -2, 4, 0, 0, 0), list(0, 0, 2, 0, 0, 4),
		}},
		{list(2, 1, 0, 0, 4, 0, 4, 4), [8]api.Ring{
			list(0, 0, 4, 0, 4, 4, 2, 1), list(0, 0, 0, 4, -4, 4, -1, 2), list(-4, -4, -2, -1, 0, 0, -4, 0), list(0, -4, 4, -4, 1, -2, 0, 0),
			list(-4, 0, 0, 0, -2, 1, -4, 4), list(-4, -4, 0, -4, 0, 0, -1, -2), list(4, -4, 4, 0, 0, 0, 2, -1), list(0, 0, 1, 2, 4, 4, 0, 4),
		}},
		{list(2000, 2000, -2000, 2000, 2000, -2000), [8]api.Ring{
			list(2000, -2000, 2000, 2000, -2000, 2000), list(-2000, -2000, 2000, 2000, -2000, 2000), list(-2000, -2000, 2000, -2000, -2000, 2000), list(-2000, -2000, 2000, -2000, 2000, 2000),
			list(-2000, -2000, 2000, 2000, -2000, 2000), list(-2000, -2000, 2000, -2000, -2000, 2000), list(-2000, -2000, 2000, -2000, 2000, 2000), list(2000, -2000, 2000, 2000, -2000, 2000),
		}},
	} {
		for n, want := range c.want {
			if r, e := symmetry.Ring(n, c.r); e != api.OK || !slices.Equal(r, want) {
				t.Errorf("%d maps %v to %v, %v, want %v", n, c.r, r, e, want)
			}
		}
	}
}

// P9.1: rings, convex and not, beginning with any vertex, mapped vertex by vertex.
func TestRing(t *testing.T) {
	for _, r := range rings() {
		for first := range r {
			l := slices.Concat(r[first:], r[:first])
			for n := range symmetry.Count {
				if m, e := symmetry.Ring(n, l); e != api.OK || !slices.Equal(m, mappedRing(n, r)) {
					t.Errorf("%d maps %v to %v, %v", n, l, m, e)
				}
			}
		}
	}
}

// P9.1: numbers that are no symmetry come first, then rings that are not valid.
func TestRingErrors(t *testing.T) {
	for _, r := range append(rings(), notRings()...) {
		for _, n := range notSymmetries() {
			if m, e := symmetry.Ring(n, r); e != api.ErrTurn || len(m) != 0 {
				t.Errorf("%d maps %v to %v, %v", n, r, m, e)
			}
		}
	}
	for _, r := range notRings() {
		for n := range symmetry.Count {
			if m, e := symmetry.Ring(n, r); e != api.ErrShape || len(m) != 0 {
				t.Errorf("%d maps %v to %v, %v", n, r, m, e)
			}
		}
	}
}
