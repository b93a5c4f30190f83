package symmetry_test

import (
	"math"
	"math/rand"
	"slices"
	"testing"

	"fretsaw/api"
	"fretsaw/ring"
	"fretsaw/symmetry"
)

const (
	least = math.MinInt
	most  = math.MaxInt
	limit = 2000
)

// v returns the vector with two coordinates.
func v(x, y int) api.Vec { return api.Vec{X: x, Y: y} }

// box returns the box with two corners.
func box(lowX, lowY, highX, highY int) api.Box {
	return api.Box{Lo: v(lowX, lowY), Hi: v(highX, highY)}
}

// list returns the ring with the vertices of which the coordinates are given.
func list(l ...int) api.Ring {
	var r api.Ring
	for i := 0; i+1 < len(l); i += 2 {
		r = append(r, v(l[i], l[i+1]))
	}
	return r
}

// notSymmetries has numbers that are none, also such with the same remainders as symmetries.
func notSymmetries() []int {
	return []int{-1, 8, -2, -4, -7, -8, 9, 12, 15, 16, 1000, -1000, 1 << 32, 1<<32 + 5, -1 << 32, 1 << 62, least, least + 1, least + 5, most, most - 1, most - 7}
}

// someNumbers has all symmetries, and numbers that are none.
func someNumbers() []int { return append([]int{0, 1, 2, 3, 4, 5, 6, 7}, notSymmetries()...) }

// notDirections has numbers that are no direction of the grain.
func notDirections() []int {
	return []int{api.GrainNone, -1, -2, 3, 4, 5, 1 << 32, 1<<32 + 1, least, least + 1, least + 2, most, most - 1}
}

// coordinates has numbers of either sign and all sizes.
func coordinates() []int {
	return []int{0, 1, -1, 2, -3, 5, limit, -limit, limit + 1, -8000, 1 << 31, -1 << 32, 1 << 62, -1 << 62, most, most - 1, least, least + 1}
}

// vectors has all vectors with these coordinates.
func vectors() []api.Vec {
	var l []api.Vec
	for _, x := range coordinates() {
		for _, y := range coordinates() {
			l = append(l, v(x, y))
		}
	}
	return l
}

// fewVectors has some of them, and random ones of all sizes.
func fewVectors() []api.Vec {
	source := rand.New(rand.NewSource(9))
	l := []api.Vec{v(0, 0), v(1, 0), v(0, 1), v(-1, 0), v(0, -1), v(3, 1), v(-2, 7), v(-4, -4), v(limit, -limit), v(least, 0), v(0, least), v(most, least), v(least, least), v(-1, most)}
	for range 12 {
		l = append(l, v(int(source.Uint64()), int(source.Uint64())), v(source.Intn(4001)-limit, source.Intn(4001)-limit))
	}
	return l
}

// image returns where a symmetry maps a vector, step by step.
func image(t int, a api.Vec) api.Vec {
	if t >= 4 {
		a = v(-a.X, a.Y)
		t -= 4
	}
	for range t {
		a = v(-a.Y, a.X)
	}
	return a
}

// mappedRing returns a ring that is mapped by the definition: it begins with its least vertex, and runs counterclockwise.
func mappedRing(t int, r api.Ring) api.Ring {
	var l api.Ring
	for _, a := range r {
		if t < 4 {
			l = append(l, image(t, a))
		} else {
			l = append(api.Ring{image(t, a)}, l...)
		}
	}
	first := 0
	for i, a := range l {
		if a.Y < l[first].Y || a.Y == l[first].Y && a.X < l[first].X {
			first = i
		}
	}
	return slices.Concat(l[first:], l[:first])
}

// mappedBox returns the least box that contains the four mapped corners of a box.
func mappedBox(t int, b api.Box) api.Box {
	first := image(t, b.Lo)
	mapped := api.Box{Lo: first, Hi: first}
	for _, c := range []api.Vec{b.Hi, v(b.Lo.X, b.Hi.Y), v(b.Hi.X, b.Lo.Y)} {
		a := image(t, c)
		mapped.Lo = v(min(mapped.Lo.X, a.X), min(mapped.Lo.Y, a.Y))
		mapped.Hi = v(max(mapped.Hi.X, a.X), max(mapped.Hi.Y, a.Y))
	}
	return mapped
}

// boxes has boxes of all sizes, also ones of one point, and ones whose corners are not in order.
func boxes() []api.Box {
	l := []api.Box{{}, box(1, 2, 5, 3), box(-4, -3, 2, 7), box(6, 6, 6, 6), box(-3, 1, -3, 9), box(-5, 0, 8, 0), box(5, 3, 1, 2), box(5, 2, 1, 3), box(1, 3, 5, 2), box(-limit, -limit, limit, limit), box(least, least, most, most), box(most, most, least, least), box(least, most, most, least), box(least, least, least, least), box(most, least, most, least)}
	few := fewVectors()
	for i, a := range few {
		for j := i % 3; j < len(few); j += 3 {
			l = append(l, api.Box{Lo: a, Hi: few[j]})
		}
	}
	return l
}

// bowl returns a convex ring of n vertices on a parabola.
func bowl(n int) api.Ring {
	var r api.Ring
	for i := range n {
		r = append(r, v(i, i*i))
	}
	return r
}

// convexRings has known rings that are convex.
func convexRings() []api.Ring {
	return []api.Ring{
		list(0, 0, 3, 0, 0, 3), list(0, 3, 0, 0, 3, 0), list(0, 0, 4, 0, 0, 2), list(0, 0, 4, 0, 4, 4, 0, 4), list(-1, -1, 1, -1, 1, 1, -1, 1), list(0, -2, 2, 0, 0, 2, -2, 0), list(1, 0, 3, 0, 4, 2, 3, 4, 1, 4, 0, 2), list(5, -1, 7, 3, 0, 1), list(-9, 4, -5, 5, -7, 8),
		list(-2000, -2000, 2000, 1999, 2000, 2000), list(1999, 2000, 2000, 1999, 2000, 2000), list(-2000, -2000, 2000, -2000, 2000, 2000, -2000, 2000), list(-2000, 0, 0, -2000, 2000, 0, 0, 2000), bowl(5), bowl(39), bowl(40),
	}
}

// otherRings has known rings that are valid, but not convex.
func otherRings() []api.Ring {
	return []api.Ring{
		list(0, 0, 4, 0, 4, 4, 2, 1), list(0, 0, 3, 0, 3, 1, 1, 1, 1, 3, 0, 3), list(0, 0, 5, 0, 5, 4, 4, 4, 4, 1, 1, 1, 1, 4, 0, 4), list(4, 0, 5, 3, 4, 2, 3, 3), list(0, 0, 8, 0, 8, 4, 6, 4, 4, 2, 2, 4, 0, 4), list(0, 3, 2, 2, 3, 0, 4, 2, 6, 3, 4, 4, 3, 6, 2, 4),
		list(0, 0, 10, 0, 10, 10, 0, 10, 0, 3, 7, 3, 7, 7, 3, 7, 3, 5, 5, 5, 5, 6, 6, 6, 6, 4, 2, 4, 2, 8, 8, 8, 8, 2, 0, 2), list(-2000, -2000, 2000, -2000, 2000, 2000, 1999, -1999), list(-2000, -2000, 0, -1, 2000, -2000, 1, 0, 2000, 2000, 0, 1, -2000, 2000, -1, 0),
	}
}

// randomRings has valid rings of all lengths, the same ones in each run: a chain to the right, and one above it to the left.
func randomRings() []api.Ring {
	source := rand.New(rand.NewSource(99))
	var l []api.Ring
	for i := range 300 {
		high, wide := []int{3, 40, 990}[i%3], []int{2, 9, 90}[i%3]
		at := v(source.Intn(101)-limit/2, source.Intn(101))
		right := 2 + source.Intn(18)
		r := api.Ring{at}
		for range right {
			at.X += 1 + source.Intn(wide)
			r = append(r, v(at.X, at.Y-1-source.Intn(high)))
		}
		r = append(r, v(at.X+1, at.Y))
		for at.X > r[0].X+wide && len(r) < 40 {
			r = append(r, v(at.X, at.Y+1+source.Intn(high)))
			at.X -= 1 + source.Intn(wide)
		}
		if i%2 == 0 {
			// A turn, so that not all of them are wide.
			r = mappedRing(3, r)
		}
		if ring.Valid(r) {
			l = append(l, r)
		}
	}
	return l
}

// rings has valid rings, convex ones and others.
func rings() []api.Ring { return slices.Concat(convexRings(), otherRings(), randomRings()) }

// notRings has lists that are not valid rings.
func notRings() []api.Ring {
	l := []api.Ring{
		nil, {}, list(3, 4), list(0, 0, 4, 0), list(0, 0, 0, 3, 3, 0), list(0, 4, 4, 4, 4, 0, 0, 0), list(0, 0, 1, 1, 2, 2), list(0, 0, 2, 0, 4, 0, 4, 4), list(2, 0, 4, 0, 4, 4, 0, 0), list(0, 0, 4, 0, 4, 0, 0, 4), list(0, 0, 4, 4, 4, 0, 0, 4), list(0, 0, 4, 0, 4, 2, 2, 0, 0, 2), bowl(41), bowl(200),
		list(0, 0, limit+1, 0, 0, 3), list(0, 0, 3, 0, 0, limit+1), list(-limit-1, 0, 0, -3, 0, 0), list(0, 0, most, 0, 0, most), list(least, 0, 0, least, 0, 0), list(least, least, most, least, most, most, least, most),
	}
	for _, r := range append(convexRings(), otherRings()...) {
		clockwise := slices.Clone(r)
		slices.Reverse(clockwise)
		l = append(l, clockwise, slices.Concat(r, r[:1]), slices.Concat(r[:1], r))
	}
	return l
}

// The models and the samples are what they are called.
func TestSamples(t *testing.T) {
	for _, r := range convexRings() {
		if !ring.Convex(r) {
			t.Errorf("%v is not convex", r)
		}
	}
	for _, r := range otherRings() {
		if !ring.Valid(r) || ring.Convex(r) {
			t.Errorf("%v is not valid, or convex", r)
		}
	}
	for _, r := range notRings() {
		if ring.Valid(r) {
			t.Errorf("%v is valid", r)
		}
	}
	for _, n := range notSymmetries() {
		if 0 <= n && n <= 7 {
			t.Errorf("%d is a symmetry", n)
		}
	}
	long := 0
	for _, r := range randomRings() {
		if len(r) > 25 {
			long++
		}
	}
	if len(randomRings()) < 150 || long < 20 {
		t.Errorf("only %d random rings, %d long ones", len(randomRings()), long)
	}
	if a := image(5, v(3, 1)); a != v(-1, -3) {
		t.Errorf("(3, 1) is mapped to %v", a)
	}
	if b := mappedBox(1, box(1, 2, 5, 3)); b != box(-3, 1, -2, 5) {
		t.Errorf("the mapped box is %v", b)
	}
	if r := mappedRing(4, list(0, 0, 4, 0, 0, 2)); !slices.Equal(r, list(-4, 0, 0, 0, 0, 2)) {
		t.Errorf("the mapped ring is %v", r)
	}
	if symmetry.Count != 8 {
		t.Errorf("%d symmetries", symmetry.Count)
	}
}
