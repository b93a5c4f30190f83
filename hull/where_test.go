package hull_test

import (
	"math/rand"
	"testing"

	"fretsaw/api"
	"fretsaw/hull"
)

// P10.1: known points inside, on edges and vertices, on the lines of edges but beyond them, and outside.
func TestKnownWhere(t *testing.T) {
	square := list(0, 0, 4, 0, 4, 4, 0, 4)
	triangle := list(-3, 0, 3, 0, 0, 6)
	large := list(-8000, -8000, 8000, -8000, 8000, 8000, -8000, 8000)
	thin := list(-8000, -8000, 8000, 7999, 8000, 8000)
	wider := list(-8000, -8000, 8000, 7998, 8000, 8000)
	for _, c := range []struct {
		r    api.Ring
		want int
		l    []api.Vec
	}{
		{square, hull.Inside, list(1, 1, 2, 2, 3, 1, 1, 3, 3, 3)},
		{square, hull.Boundary, list(0, 0, 4, 0, 4, 4, 0, 4, 2, 0, 4, 1, 3, 4, 0, 2)},
		{square, hull.Outside, list(5, 0, -1, 0, 4, 5, 4, -1, 0, 5, 0, -1, -1, 4, 5, 4, 5, 2, -1, 2, 2, 5, 2, -1, 5, 5, -1, -1, 8000, 0, 0, -8000, 2, 8001, 8001, 0)},
		{triangle, hull.Inside, list(0, 1, 0, 5, 1, 3, -1, 3, 2, 1)},
		{triangle, hull.Boundary, list(0, 0, -3, 0, 3, 0, 0, 6, 1, 4, -2, 2, 2, 2)},
		{triangle, hull.Outside, list(4, 0, -4, 0, 1, 8, -1, 8, 4, -2, -4, -2, 2, 3, -2, 3, 0, 7, 3, 1)},
		{large, hull.Inside, list(0, 0, 7999, 7999, -7999, -7999, 7999, -7999)},
		{large, hull.Boundary, list(8000, 8000, -8000, 0, 0, 8000, -8000, -8000, 7999, 8000)},
		{large, hull.Outside, list(8001, 0, 0, 8001, -8001, 0, 0, -8001, 8001, 8000, 8000, -8001, 16000, 0)},
		{thin, hull.Boundary, list(0, 0, 8000, 7999, 8000, 8000, -8000, -8000, 7999, 7999)},
		{thin, hull.Outside, list(7999, 7998, 0, -1, 0, 1, 8000, 7998, -7999, -8000)},
		{wider, hull.Inside, list(7999, 7998, 1, 0)},
		{wider, hull.Boundary, list(0, 0, 0, -1, 8000, 7999, 7999, 7999)},
		{wider, hull.Outside, list(-1, -2, 1, -1, 7999, 7997, 0, 1)},
	} {
		for _, p := range c.l {
			if n := hull.Where(c.r, p); n != c.want {
				t.Errorf("%v of %v: %d, not %d", p, c.r, n, c.want)
			}
		}
	}
}

// P10.1: points beyond the limits lie outside, also where products of their coordinates wrap around to those of points inside.
func TestFarPoints(t *testing.T) {
	far := []int{8001, -8001, 1 << 31, 1 << 32, 1 << 59, 1 << 60, 1 << 61, 1 << 62, -1 << 32, -1 << 61, -1 << 62, most - 3, most, least, least + 1, least + 2}
	for _, r := range rings() {
		middle := v((r[0].X+r[1].X+r[2].X)/3, (r[0].Y+r[1].Y+r[2].Y)/3)
		for _, n := range far {
			for _, p := range []api.Vec{v(n, 1), v(1, n), v(n, n), v(n, -n), v(n, r[0].Y), v(r[0].X, n), plus(middle, v(n, 0)), plus(middle, v(0, n)), plus(middle, v(n, n)), plus(r[1], v(n, n))} {
				if place := hull.Where(r, p); place != hull.Outside && !isInLimits([]api.Vec{p}) {
					t.Errorf("%v of %v: %d", p, r, place)
				}
			}
		}
	}
}

// around has a vertex, the points between it and the next ones, points on the line of its edge beyond the ends, and ones beside all of
// these.
func around(r api.Ring, i int) []api.Vec {
	a, b, c := r[i], next(r, i), next(r, i+1)
	l := []api.Vec{a, v((a.X+b.X)/2, (a.Y+b.Y)/2), v((a.X+c.X)/2, (a.Y+c.Y)/2), v(2*a.X-b.X, 2*a.Y-b.Y), v(2*b.X-a.X, 2*b.Y-a.Y), v(a.X, b.Y), v(b.X, c.Y)}
	for _, d := range list(1, 0, -1, 0, 0, 1, 0, -1, 1, 1, -1, -1) {
		l = append(l, plus(a, d), plus(l[1], d))
	}
	return l
}

// P10.1: points on, beside and beyond edges of rings, and random points around them, against the model.
func TestWhere(t *testing.T) {
	source := rand.New(rand.NewSource(104))
	counts := map[int]int{}
	for _, r := range rings() {
		var l []api.Vec
		for i := range r {
			// Of the vertices of long rings, some are tried, as there are many.
			if len(r) < 20 || source.Intn(len(r)) < 10 {
				l = append(l, around(r, i)...)
			}
		}
		for range 20 {
			a, b := r[source.Intn(len(r))], r[source.Intn(len(r))]
			n := source.Intn(101)
			l = append(l, v(a.X+(b.X-a.X)*n/100, a.Y+(b.Y-a.Y)*n/100), v(a.X, b.Y))
		}
		for _, p := range l {
			want := whereIs(r, p)
			counts[want]++
			if n := hull.Where(r, p); n != want {
				t.Errorf("%v of %v: %d, not %d", p, r, n, want)
			}
		}
	}
	if min(counts[0], counts[1], counts[2]) < 1000 {
		t.Errorf("only these points were tried: %v", counts)
	}
}

// P10.1: all points of a grid around each convex ring of three and four of its points, against the model.
func TestWhereInGrid(t *testing.T) {
	counts := map[int]int{}
	look := func(r api.Ring) {
		if !hull.Convex(r) {
			return
		}
		for x := -1; x <= 3; x++ {
			for y := -1; y <= 3; y++ {
				want := whereIs(r, v(x, y))
				counts[want]++
				if n := hull.Where(r, v(x, y)); n != want {
					t.Errorf("%v of %v: %d, not %d", v(x, y), r, n, want)
				}
			}
		}
	}
	smallLists(3, look)
	smallLists(4, look)
	if min(counts[0], counts[1], counts[2]) < 50 {
		t.Errorf("only these points were tried: %v", counts)
	}
}
