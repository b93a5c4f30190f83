package hull_test

import (
	"math/rand"
	"slices"
	"testing"

	"fretsaw/api"
	"fretsaw/hull"
)

// P10.2: the hull is convex and canonical, its vertices are points of the list, and no point of the list lies outside; each vertex
// lies on the boundary.
func TestHullContainsItsPoints(t *testing.T) {
	for _, l := range randomLists() {
		r, e := hull.Hull(l)
		if e != api.OK {
			continue
		}
		if !hull.Convex(r) || !slices.Equal(r, canonical(r)) {
			t.Errorf("%v has the hull %v", l, r)
		}
		for _, p := range l {
			if hull.Where(r, p) == hull.Outside {
				t.Errorf("%v of %v lies outside of %v", p, l, r)
			}
		}
		for _, a := range r {
			if !slices.Contains(l, a) || hull.Where(r, a) != hull.Boundary {
				t.Errorf("%v is no vertex of the hull of %v", a, l)
			}
		}
	}
}

// hasOutside reports whether some point of a list lies outside of a convex ring.
func hasOutside(r api.Ring, l []api.Vec) bool {
	return slices.ContainsFunc(l, func(p api.Vec) bool { return hull.Where(r, p) == hull.Outside })
}

// P10.3: a convex ring that has no point of the list outside has no vertex of the hull outside; without one vertex, the hull is no
// such ring.
func TestHullIsLeast(t *testing.T) {
	source := rand.New(rand.NewSource(105))
	counts := map[bool]int{}
	for _, l := range randomLists() {
		r, e := hull.Hull(l)
		if e != api.OK {
			continue
		}
		for range 5 {
			// Rings around some of the points and others: many of them contain all points, if only just.
			n := source.Intn(len(l))
			others := slices.Concat(l[n:], r[:source.Intn(len(r)+1)], list(source.Intn(2*limit+1)-limit, source.Intn(2*limit+1)-limit))
			larger, e := wrapped(others[:min(len(others), 400)])
			if e != api.OK {
				continue
			}
			isOutside := hasOutside(larger, l)
			counts[isOutside]++
			if !isOutside && hasOutside(larger, r) {
				t.Errorf("%v contains %v, but not its hull %v", larger, l, r)
			}
		}
		for i := range r {
			if fewer := slices.Delete(slices.Clone(r), i, i+1); len(fewer) >= 3 && !hasOutside(fewer, l) {
				t.Errorf("%v contains %v, as its hull %v does", fewer, l, r)
			}
		}
	}
	if min(counts[false], counts[true]) < 100 {
		t.Errorf("only these were tried: %v", counts)
	}
}

// P10.4: the hull of a convex ring's vertices, in any order and with repetitions, is the ring in canonical form.
func TestHullOfRing(t *testing.T) {
	source := rand.New(rand.NewSource(106))
	for _, r := range rings() {
		clockwise := slices.Clone(r)
		slices.Reverse(clockwise)
		for _, l := range [][]api.Vec{r, clockwise, slices.Concat(r, r), shuffled(source, r, len(r)), shuffled(source, r, 2*len(r)), shuffled(source, r, 400)} {
			if h, e := hull.Hull(l); e != api.OK || !slices.Equal(h, canonical(r)) {
				t.Errorf("%v has the hull %v, %v", l, h, e)
			}
		}
	}
}

// P10.4: the hull of two lists together is the hull of the vertices of both hulls.
func TestHullOfTwoLists(t *testing.T) {
	lists := randomLists()
	together := 0
	for i, a := range lists {
		for _, j := range []int{i, (i + 1) % len(lists), (i + 5) % len(lists), (7*i + 3) % len(lists)} {
			b := lists[j]
			first, eFirst := hull.Hull(a)
			second, eSecond := hull.Hull(b)
			if eFirst != api.OK || eSecond != api.OK || len(a)+len(b) > 400 {
				continue
			}
			together++
			both, e := hull.Hull(slices.Concat(a, b))
			if again, eAgain := hull.Hull(slices.Concat(first, second)); e != api.OK || e != eAgain || !slices.Equal(both, again) {
				t.Errorf("%v and %v have the hull %v, %v; those of both hulls are %v, %v", a, b, both, e, again, eAgain)
			}
			if swapped, e := hull.Hull(slices.Concat(second, first)); e != api.OK || !slices.Equal(both, swapped) {
				t.Errorf("%v and %v have the hull %v, and the other way around %v, %v", a, b, both, swapped, e)
			}
		}
	}
	if together < 1000 {
		t.Errorf("only %d pairs of lists were tried", together)
	}
}

// P10.5: the width is the scalar product of the direction and the difference of the farthest vertices in it and against it.
func TestWidthOfFarthest(t *testing.T) {
	for _, r := range rings() {
		for _, d := range directions() {
			far, _ := hull.Farthest(r, d)
			near, _ := hull.Farthest(r, v(-d.X, -d.Y))
			width, e := hull.Width(r, d)
			if e != api.OK || width != dot(d, v(far.X-near.X, far.Y-near.Y)) || width < 0 {
				t.Errorf("the width of %v in the direction %v: %d, %v", r, d, width, e)
			}
			if opposite, e := hull.Width(r, v(-d.X, -d.Y)); e != api.OK || opposite != width {
				t.Errorf("the width of %v in the direction %v: %d, and against it %d, %v", r, d, width, opposite, e)
			}
		}
	}
}

// P10.5: moving a ring changes neither its widths nor its diameter, up to the limits of coordinates; beyond them, it is not convex.
func TestMoved(t *testing.T) {
	source := rand.New(rand.NewSource(107))
	counts := map[bool]int{}
	for _, r := range rings() {
		left, right, low, high := r[0].X, r[0].X, r[0].Y, r[0].Y
		for _, a := range r {
			left, right, low, high = min(left, a.X), max(right, a.X), min(low, a.Y), max(high, a.Y)
		}
		diameter, _ := hull.Diameter2(r)
		for _, m := range []api.Vec{v(limit-right, limit-high), v(-limit-left, -limit-low), v(limit-right, -limit-low), v(source.Intn(101)-50, source.Intn(101)-50), v(limit-right+1, 0), v(0, -limit-low-1)} {
			var moved api.Ring
			for _, a := range r {
				moved = append(moved, plus(a, m))
			}
			isRing := isInLimits(moved)
			counts[isRing]++
			if hull.Convex(moved) != isRing {
				t.Errorf("%v, moved by %v, is convex: %v", r, m, !isRing)
			}
			if n, e := hull.Diameter2(moved); isRing && (e != api.OK || n != diameter) {
				t.Errorf("the squared diameter of %v: %d, and %d, %v, if moved by %v", r, diameter, n, e, m)
			}
			for _, d := range directions() {
				width, _ := hull.Width(r, d)
				if n, e := hull.Width(moved, d); isRing && (e != api.OK || n != width) || !isRing && e != api.ErrShape {
					t.Errorf("the width of %v in the direction %v: %d, and %d, %v, if moved by %v", r, d, width, n, e, m)
				}
			}
		}
	}
	if min(counts[false], counts[true]) < 100 {
		t.Errorf("only these were tried: %v", counts)
	}
}

// P10.6: the squared width is at most the squared diameter times the square of the direction, which it is in the direction of the
// diameter; the squared diameter is the squared distance of two vertices.
func TestWidthAndDiameter(t *testing.T) {
	for _, r := range rings() {
		diameter, e := hull.Diameter2(r)
		isDistance := false
		for i, a := range r {
			for _, b := range r[:i] {
				d := v(a.X-b.X, a.Y-b.Y)
				isDistance = isDistance || dot(d, d) == diameter
				if width, e := hull.Width(r, d); e == api.OK && dot(d, d) == diameter && width != diameter {
					t.Errorf("the width of %v in the direction %v of the diameter: %d", r, d, width)
				}
			}
		}
		if e != api.OK || !isDistance {
			t.Errorf("the squared diameter of %v: %d, %v", r, diameter, e)
		}
		for _, d := range directions() {
			if width, e := hull.Width(r, d); e != api.OK || width*width > diameter*dot(d, d) {
				t.Errorf("the width of %v in the direction %v: %d, %v, with the squared diameter %d", r, d, width, e, diameter)
			}
		}
	}
}

// results has what the functions return for a list, and a point or a direction.
type results struct {
	convex                                              bool
	hullError, farthestError, widthError, diameterError api.Errno
	place, width, diameter                              int
	farthest                                            api.Vec
}

// resultsOf returns these results, and the hull of the list.
func resultsOf(l []api.Vec, p api.Vec) (results, api.Ring) {
	var n results
	r, e := hull.Hull(l)
	n.hullError, n.convex, n.place = e, hull.Convex(l), hull.Where(l, p)
	n.farthest, n.farthestError = hull.Farthest(l, p)
	n.width, n.widthError = hull.Width(l, p)
	n.diameter, n.diameterError = hull.Diameter2(l)
	return n, r
}

// allLists has lists of all kinds, also many points, and coordinates of all sizes.
func allLists() []api.Ring {
	l := slices.Concat(convexRings(), notRings(), []api.Ring{make(api.Ring, 400), make(api.Ring, 401), make(api.Ring, 20000), list(least, least, most, most, 0, least), list(most, least, least, most, most, most, 0, 0), list(8001, 0, 0, 1, 2, 2)})
	for i, points := range randomLists() {
		if i%9 == 0 {
			l = append(l, points)
		}
	}
	return l
}

// P1: nothing panics, the same calls lead to the same results, and no function changes its list, nor what lies behind it.
func TestSameResults(t *testing.T) {
	points := append(farDirections(), list(0, 0, 1, 1, -3, 7, 8000, -8000, 8001, 0)...)
	for _, l := range allLists() {
		kept := append(slices.Clone(l), v(77, -77), v(-77, 77))
		given := slices.Clone(kept)
		for _, p := range points {
			n, r := resultsOf(given[:len(l)], p)
			if again, rAgain := resultsOf(given[:len(l)], p); again != n || !slices.Equal(rAgain, r) {
				t.Errorf("%v and %v: %v, %v, and then %v, %v", l, p, n, r, again, rAgain)
			}
			if !slices.Equal(given, kept) {
				t.Fatalf("%v is changed to %v", kept, given)
			}
		}
	}
}

// P1: a hull shares no memory with the list, even if this is the hull already, nor with another hull.
func TestHullsAreNew(t *testing.T) {
	for _, l := range allLists() {
		kept := append(slices.Clone(l), v(77, -77), v(-77, 77))
		given := slices.Clone(kept)
		first, _ := hull.Hull(given[:len(l)])
		second, _ := hull.Hull(given[:len(l)])
		want := slices.Clone(second)
		for i := range first {
			first[i] = v(99, 99)
		}
		_ = append(first, v(98, 98))
		if !slices.Equal(given, kept) || !slices.Equal(second, want) {
			t.Fatalf("%v is changed to %v, or %v, by a change of its hull", kept, given, second)
		}
	}
}
