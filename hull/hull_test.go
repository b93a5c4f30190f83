package hull_test

import (
	"math/rand"
	"slices"
	"testing"

	"fretsaw/api"
	"fretsaw/hull"
)

// P10.1: the example of the chapter, the numbers of the places, and the number of points.
func TestExample(t *testing.T) {
	r, e := hull.Hull(list(0, 0, 2, 0, 1, 1, 2, 2, 0, 2, 1, 0))
	if e != api.OK || !slices.Equal(r, list(0, 0, 2, 0, 2, 2, 0, 2)) {
		t.Errorf("the hull: %v, %v", r, e)
	}
	if n, e := hull.Width(r, v(1, 1)); e != api.OK || n != 4 {
		t.Errorf("the width: %d, %v", n, e)
	}
	if n, e := hull.Diameter2(r); e != api.OK || n != 8 {
		t.Errorf("the squared diameter: %d, %v", n, e)
	}
	if hull.Outside != 0 || hull.Boundary != 1 || hull.Inside != 2 || hull.MaxPoints != 400 {
		t.Errorf("%d, %d, %d, %d", hull.Outside, hull.Boundary, hull.Inside, hull.MaxPoints)
	}
}

// P10.1: known rings of 3 to 160 vertices within 8000 are convex, wherever they begin.
func TestConvexRings(t *testing.T) {
	for _, r := range rings() {
		if !hull.Convex(r) {
			t.Errorf("%v is not convex", r)
		}
	}
}

// P10.1: what is wrong in one of the ways of the chapter is not convex; everything lies outside of it, and the rest is ErrShape,
// ahead of ErrRange.
func TestNotConvex(t *testing.T) {
	for what, l := range notConvex() {
		for _, r := range l {
			if hull.Convex(r) {
				t.Errorf("%s: %v is convex", what, r)
			}
			for _, p := range append(list(0, 0, 1, 1, 2, 1, 3, 3, 0, 3, -1, 2, 0, 8000), r[:min(len(r), 20)]...) {
				if n := hull.Where(r, p); n != hull.Outside {
					t.Errorf("%s: %v of %v: %d", what, p, r, n)
				}
			}
			for _, d := range append(directions(), farDirections()...) {
				far, e := hull.Farthest(r, d)
				width, eWidth := hull.Width(r, d)
				if e != api.ErrShape || eWidth != api.ErrShape || far != v(0, 0) || width != 0 {
					t.Errorf("%s: %v, in the direction %v: %v, %v; %d, %v", what, r, d, far, e, width, eWidth)
				}
			}
			if n, e := hull.Diameter2(r); e != api.ErrShape || n != 0 {
				t.Errorf("%s: %v: %d, %v", what, r, n, e)
			}
		}
	}
}

// smallLists calls a function with all lists of n points of a grid of 3 by 3. The list is changed behind the call.
func smallLists(n int, look func(api.Ring)) {
	count := 1
	for range n {
		count *= 9
	}
	l := make(api.Ring, n)
	for i := range count {
		for j := range l {
			l[j] = v(i%9%3, i%9/3)
			i /= 9
		}
		look(l)
	}
}

// P10.1: all lists of up to 5 points of a small grid, and some of 6: whether they are convex, and their hulls, against the models.
func TestSmallLists(t *testing.T) {
	counts := map[bool]int{}
	hulls := map[int]int{}
	look := func(l api.Ring) {
		isRing := hull.Convex(l)
		counts[isRing]++
		if isRing != isConvex(l) {
			t.Errorf("%v: %v", l, isRing)
		}
		r, e := hull.Hull(l)
		hulls[len(r)]++
		if want, eWant := wrapped(l); e != eWant || !slices.Equal(r, want) || e == api.OK && !isHull(r, l) {
			t.Errorf("%v has the hull %v, %v, not %v, %v", l, r, e, want, eWant)
		}
	}
	for n := range 6 {
		smallLists(n, look)
	}
	last := v(1, 1)
	smallLists(5, func(l api.Ring) {
		look(append(slices.Clone(l), last))
		last = l[2]
	})
	if counts[true] < 500 || hulls[0] < 1000 || hulls[3] < 1000 || hulls[4] < 1000 || hulls[5] < 10 {
		t.Errorf("only these were tried: %v, and the hulls %v", counts, hulls)
	}
}

// P10.1: random lists of vertices, many of which would be convex but for one that is moved, taken out of order, or taken twice.
func TestRandomRings(t *testing.T) {
	source := rand.New(rand.NewSource(101))
	counts := map[bool]int{}
	for _, r := range rings() {
		for range 20 {
			l := slices.Clone(r)
			i, j := source.Intn(len(l)), source.Intn(len(l))
			switch source.Intn(4) {
			case 0:
				l[i] = plus(l[i], v(source.Intn(3)-1, source.Intn(3)-1))
			case 1:
				l[i], l[j] = l[j], l[i]
			case 2:
				l[i] = l[j]
			case 3:
				l = slices.Delete(l, i, i+1)
			}
			isRing := isConvex(l)
			counts[isRing]++
			if hull.Convex(l) != isRing {
				t.Errorf("%v: %v", l, !isRing)
			}
		}
	}
	if len(counts) != 2 || min(counts[false], counts[true]) < 1000 {
		t.Errorf("only these were tried: %v", counts)
	}
}

// P10.1: known hulls: three points in either order, points on edges and inside, repeated vertices, and the limits of coordinates.
func TestKnownHulls(t *testing.T) {
	for _, c := range []struct{ l, want api.Ring }{
		{list(0, 0, 4, 0, 0, 2), list(0, 0, 4, 0, 0, 2)}, {list(0, 0, 0, 2, 4, 0), list(0, 0, 4, 0, 0, 2)}, {list(0, 2, 4, 0, 0, 0), list(0, 0, 4, 0, 0, 2)}, {list(4, 0, 0, 2, 0, 0), list(0, 0, 4, 0, 0, 2)},
		{list(0, 0, 0, 0, 4, 0, 0, 2, 0, 2, 4, 0), list(0, 0, 4, 0, 0, 2)}, {list(4, 0, 4, 0, 4, 0, 0, 2, 0, 0), list(0, 0, 4, 0, 0, 2)},
		{list(1, 0, 2, 0, 3, 0, 4, 0, 4, 1, 4, 2, 3, 2, 2, 2, 1, 2, 0, 2, 0, 1, 0, 0), list(0, 0, 4, 0, 4, 2, 0, 2)}, {list(2, 0, 1, 1, 0, 2, 0, 0, 1, 0, 0, 1), list(0, 0, 2, 0, 0, 2)}, {list(2, 2, 0, 0, 1, 1, 0, 3, 0, 1, 0, 2, 3, 3), list(0, 0, 3, 3, 0, 3)},
		{list(0, 4, 3, 0, -3, 0, 0, 0, 0, 1, 0, 4), list(-3, 0, 3, 0, 0, 4)}, {list(3, 3, 5, 5, 5, 1, 1, 5, 1, 1, 3, 3, 4, 2, 2, 4), list(1, 1, 5, 1, 5, 5, 1, 5)}, {list(0, -1, 1, 0, 0, 1, -1, 0, 0, 0), list(0, -1, 1, 0, 0, 1, -1, 0)},
		{list(8000, 0, 0, 0, 0, 1), list(0, 0, 8000, 0, 0, 1)}, {list(8000, 8000, -8000, 8000, 8000, -8000, -8000, -8000, 0, 8000, 0, 0), list(-8000, -8000, 8000, -8000, 8000, 8000, -8000, 8000)}, {list(8000, 8000, -8000, -8000, 0, 0, 7999, 8000), list(-8000, -8000, 8000, 8000, 7999, 8000)}, {list(8000, 8000, -8000, -8000, 7999, 7999, 8000, 7999), list(-8000, -8000, 8000, 7999, 8000, 8000)},
	} {
		if r, e := hull.Hull(c.l); e != api.OK || !slices.Equal(r, c.want) {
			t.Errorf("%v has the hull %v, %v", c.l, r, e)
		}
	}
}

// row returns n points from a point on, each one further by a step than the one ahead of it.
func row(n int, from, step api.Vec) []api.Vec {
	var l []api.Vec
	for i := range n {
		l = append(l, v(from.X+i*step.X, from.Y+i*step.Y))
	}
	return l
}

// P10.1: no points, points that are equal, and collinear ones, in any order and with repetitions, have no hull; one point beside
// the line makes one.
func TestCollinear(t *testing.T) {
	source := rand.New(rand.NewSource(102))
	lists := [][]api.Vec{nil, {}, list(0, 0), list(3, -4, 3, -4), list(8000, 8000, -8000, -8000, 0, 0), make([]api.Vec, 400), row(400, v(1, 1), v(0, 0)), row(2, v(5, 5), v(-3, 1)), row(400, v(-200, 0), v(1, 0)), row(321, v(-8000, 0), v(50, 0)), row(400, v(0, -4000), v(0, 20)), row(17, v(8000, 8000), v(-1000, -1000)), row(100, v(-300, 50), v(7, -3)), row(3, v(-8000, -7999), v(8000, 7999))}
	for _, l := range lists {
		for _, mixed := range [][]api.Vec{l, shuffled(source, l, len(l)), shuffled(source, l, min(3*len(l), 400))} {
			if r, e := hull.Hull(mixed); e != api.ErrShape || len(r) != 0 {
				t.Errorf("%v has the hull %v, %v", mixed, r, e)
			}
		}
		if len(l) < 2 || len(l) == 400 || l[0] == l[1] {
			continue
		}
		for _, p := range []api.Vec{plus(l[0], v(0, -1)), plus(l[len(l)-1], v(-1, 0)), plus(l[1], v(-1, -1)), v(-7000, 3)} {
			mixed := shuffled(source, append(slices.Clone(l), p), 20)
			r, e := hull.Hull(mixed)
			want, eWant := wrapped(mixed)
			if e != eWant || !slices.Equal(r, want) || e == api.OK && len(r) != 3 {
				t.Errorf("%v has the hull %v, %v, not %v, %v", mixed, r, e, want, eWant)
			}
		}
	}
}

// P10.1: the errors of Hull come in the order of the chapter: more than 400 points, coordinates, collinear points, and more than
// 160 vertices.
func TestHullErrors(t *testing.T) {
	far := []int{8001, -8001, 1 << 32, 1<<32 + 1, 1 << 62, most, least, least + 1}
	for _, c := range []struct {
		what string
		l    []api.Vec
		want api.Errno
	}{
		{"401 points", append(row(400, v(0, 0), v(1, 0)), v(0, 1)), api.ErrLimit},
		{"401 equal points", make([]api.Vec, 401), api.ErrLimit},
		{"401 points, one of them too far", append(make([]api.Vec, 400), v(8001, 0)), api.ErrLimit},
		{"many points", make([]api.Vec, 100000), api.ErrLimit},
		{"401 points on a hull of 400 vertices", append(wheel(400), v(1, 1)), api.ErrLimit},
		{"400 points", append(row(399, v(0, 0), v(1, 0)), v(0, 1)), api.OK},
		{"400 points, one of them too far", append(row(399, v(0, 0), v(1, 0)), v(0, 8001)), api.ErrRange},
		{"a hull of 400 vertices", wheel(400), api.ErrLimit},
		{"a hull of 162 vertices", wheel(162), api.ErrLimit},
		{"a hull of 161 vertices", bowl(161), api.ErrLimit},
		{"a hull of 160 vertices", bowl(160), api.OK},
		{"a hull of 160 vertices, and points inside", slices.Concat(wheel(160), row(40, v(0, 100), v(1, 1)), wheel(160)), api.OK},
		{"a hull of 179 vertices, one of them too far", append(bowl(179), v(0, 8001)), api.ErrRange},
		{"a hull of 3 vertices around one of 200", append(wheel(200), list(-8000, -8000, 8000, -8000, 0, 8000)...), api.OK},
	} {
		if r, e := hull.Hull(c.l); e != c.want || (e == api.OK) != (len(r) > 0) {
			t.Errorf("%s: %v, with %d vertices", c.what, e, len(r))
		}
	}
	for _, n := range far {
		for _, p := range []api.Vec{v(n, 0), v(0, n), v(n, n), v(8000, n), v(-n, n)} {
			for _, l := range [][]api.Vec{{p}, {p, p}, {p, v(0, 0), v(1, 1)}, {v(0, 0), p, v(3, 4)}, append(list(0, 0, 3, 0, 0, 3, 1, 1), p), append(wheel(300), p)} {
				if r, e := hull.Hull(l); e != api.ErrRange || len(r) != 0 {
					t.Errorf("%v has the hull %v, %v", l, r, e)
				}
			}
		}
	}
}

// P10.1, P10.2: random lists, and the vertices of round hulls with others, against a hull that is found in another way, and by the
// definition.
func TestHulls(t *testing.T) {
	source := rand.New(rand.NewSource(103))
	lists := randomLists()
	for range 40 {
		at := v(source.Intn(4001)-2000, source.Intn(4001)-2000)
		var l []api.Vec
		for _, a := range wheel(160 + 2*source.Intn(8) - 10) {
			l = append(l, plus(a, at), plus(at, v(source.Intn(50), 50+source.Intn(50))))
		}
		lists = append(lists, shuffled(source, l, len(l)))
	}
	counts := map[api.Errno]int{}
	for _, l := range lists {
		r, e := hull.Hull(l)
		counts[e]++
		if want, eWant := wrapped(l); e != eWant || !slices.Equal(r, want) {
			t.Errorf("%v has the hull %v, %v, not %v, %v", l, r, e, want, eWant)
		}
		if e == api.OK && (!isHull(r, l) || !hull.Convex(r)) {
			t.Errorf("%v is not the hull of %v", r, l)
		}
	}
	if counts[api.OK] < 500 || counts[api.ErrShape] < 20 || counts[api.ErrLimit] < 5 {
		t.Errorf("only these were tried: %v", counts)
	}
}
