package ring_test

import (
	"math/rand"
	"testing"

	"fretsaw/api"
	"fretsaw/ring"
	"fretsaw/seg"
)

// P8.1: known points of known rings: at vertices, on edges, at the height of vertices, and beyond the limits.
func TestKnownWhere(t *testing.T) {
	arrow := list(0, 0, 4, 0, 4, 4, 2, 1)
	star := list(0, 3, 2, 2, 3, 0, 4, 2, 6, 3, 4, 4, 3, 6, 2, 4)
	valley := list(0, 0, 8, 0, 8, 4, 6, 4, 4, 2, 2, 4, 0, 4)
	large := list(-2000, -2000, 2000, -2000, 2000, 2000, -2000, 2000)
	for _, c := range []struct {
		r    api.Ring
		want int
		l    []api.Vec
	}{
		{arrow, ring.Boundary, list(2, 0, 4, 4, 2, 1, 0, 0, 4, 0, 4, 1, 1, 0)},
		{arrow, ring.Inside, list(3, 1, 3, 2)},
		{arrow, ring.Outside, list(2, 2, 1, 1, 5, 0, -1, 0, 3, 3, 5, 4, 3, 4, 0, 4, 5, 1, 0, 1, 8001, 0)},
		{star, ring.Inside, list(3, 3, 1, 3, 5, 3, 3, 1, 3, 5, 3, 2, 3, 4)},
		{star, ring.Boundary, list(0, 3, 6, 3, 2, 2, 4, 2, 2, 4, 4, 4, 3, 0, 3, 6)},
		{star, ring.Outside, list(-1, 3, 7, 3, 1, 2, 0, 2, 5, 2, 1, 4, 5, 4, 2, 0, 4, 0, 2, 6, 4, 6, 0, 0, 6, 6)},
		{valley, ring.Inside, list(1, 2, 3, 2, 7, 2, 5, 2, 4, 1, 1, 3, 7, 3)},
		{valley, ring.Boundary, list(1, 4, 7, 4, 4, 2, 3, 3, 5, 3, 0, 2, 8, 2, 4, 0)},
		{valley, ring.Outside, list(4, 3, 4, 4, 3, 4, 5, 4, -1, 4, 9, 4, -1, 2, 9, 2, -1, 0, 9, 0, 1, 5)},
		{large, ring.Boundary, list(2000, 2000, -2000, 0, 0, 2000, -2000, -2000, 1999, 2000)},
		{large, ring.Inside, list(0, 0, 1999, 1999, -1999, -1999, 1999, -1999)},
		{large, ring.Outside, list(2001, 0, 0, 2001, -2001, 0, 0, -2001, 2001, 2000, 4000, 0, -4000, 4000, 4001, 0, 0, -4001, 1<<32, 0, 0, 1<<62, most, most, least, least, least, 0, 0, most, most, 1999)},
	} {
		for _, p := range c.l {
			if n := ring.Where(c.r, p); n != c.want {
				t.Errorf("%v of %v: %d, not %d", p, c.r, n, c.want)
			}
		}
	}
}

// P8.1: every integer point of and around narrow rings, and all vertices of others, against the model.
func TestWhere(t *testing.T) {
	counts := map[int]int{}
	for _, r := range narrow() {
		for _, p := range grid(around(r)) {
			want := whereIs(r, seg.PointOf(p))
			counts[want]++
			if n := ring.Where(r, p); n != want {
				t.Errorf("%v of %v: %d, not %d", p, r, n, want)
			}
		}
	}
	for _, r := range rings() {
		for i, a := range r {
			for _, p := range []api.Vec{a, plus(a, v(1, 0)), plus(a, v(0, -1)), v(a.X, next(r, i).Y), v(next(r, i+1).X, a.Y)} {
				if n := ring.Where(r, p); n != whereIs(r, seg.PointOf(p)) {
					t.Errorf("%v of %v: %d", p, r, n)
				}
			}
		}
	}
	if len(counts) != 3 || min(counts[0], counts[1], counts[2]) < 1000 {
		t.Errorf("only these points were tried: %v", counts)
	}
}

// pointsOf has rational points on the edges of a ring, just beside them, and in its box, with denominators of all sizes.
func pointsOf(source *rand.Rand, r api.Ring) []api.Point {
	var l []api.Point
	for i, a := range r {
		b := next(r, i)
		den := 1 + source.Intn([]int{2, 9, 1000, maxDen >> 14}[source.Intn(4)])
		n := source.Intn(den + 1)
		x, y := a.X*den+n*(b.X-a.X), a.Y*den+n*(b.Y-a.Y)
		fine := maxDen / den
		l = append(l, pt(x, y, den), pt(x*fine+1, y*fine, fine*den), pt(x*fine, y*fine-1, fine*den), pt(x*fine-1, y*fine+1, fine*den), pt(x+1, y, den), pt(x, y-1, den))
		l = append(l, pt(a.X*maxDen+source.Intn(3)-1, a.Y*maxDen+source.Intn(3)-1, maxDen))
	}
	lo, hi := around(r)
	for range 10 {
		den := 1 + source.Intn([]int{2, 9, 1000, maxDen}[source.Intn(4)])
		l = append(l, pt(lo.X*den+source.Intn((hi.X-lo.X)*den+1), lo.Y*den+source.Intn((hi.Y-lo.Y)*den+1), den))
		l = append(l, pt(lo.X*den+source.Intn((hi.X-lo.X)*den+1), r[source.Intn(len(r))].Y*den, den))
	}
	return l
}

// P8.1: rational points on edges and off them, against the model.
func TestWherePoint(t *testing.T) {
	source := rand.New(rand.NewSource(888))
	counts := map[int]int{}
	for _, r := range rings() {
		for _, p := range pointsOf(source, r) {
			want := whereIs(r, p)
			if p.Den > 1 {
				counts[want]++
			}
			if n := ring.WherePoint(r, p); n != want {
				t.Errorf("%v of %v: %d, not %d", p, r, n, want)
			}
		}
	}
	if len(counts) != 3 || min(counts[0], counts[1], counts[2]) < 1000 {
		t.Errorf("only these points were tried: %v", counts)
	}
}

// P8.1: known rational points: on edges, a hair beside them, in corners, and at the greatest numerators of valid points.
func TestKnownWherePoint(t *testing.T) {
	square := list(0, 0, 4, 0, 4, 4, 0, 4)
	thin := list(-2000, -2000, 2000, 1999, 2000, 2000)
	for _, c := range []struct {
		r    api.Ring
		p    api.Point
		want int
	}{
		{square, pt(1, 1, 2), ring.Inside}, {square, pt(0, 1, 2), ring.Boundary}, {square, pt(1, 0, 2), ring.Boundary}, {square, pt(8, 7, 2), ring.Boundary}, {square, pt(-1, 1, 2), ring.Outside}, {square, pt(9, 1, 2), ring.Outside}, {square, pt(1, 9, 2), ring.Outside},
		{square, pt(1, 1, maxDen), ring.Inside}, {square, pt(-1, 1, maxDen), ring.Outside}, {square, pt(1, -1, maxDen), ring.Outside}, {square, pt(-1, 0, maxDen), ring.Outside}, {square, pt(1, 0, maxDen), ring.Boundary}, {square, pt(4*maxDen-1, 4*maxDen-1, maxDen), ring.Inside}, {square, pt(4*maxDen+1, 4*maxDen-1, maxDen), ring.Outside}, {square, pt(4*maxDen+1, 4*maxDen, maxDen), ring.Outside}, {square, pt(4*maxDen-1, 4*maxDen, maxDen), ring.Boundary},
		{square, pt(4000*maxDen, 1, maxDen), ring.Outside}, {square, pt(-4000*maxDen, 1, maxDen), ring.Outside}, {square, pt(1-4000*maxDen, 4000*maxDen, maxDen), ring.Outside},
		{thin, pt(0, -1, 2), ring.Boundary}, {thin, pt(0, -2, 3), ring.Outside}, {thin, pt(0, -1, 3), ring.Inside}, {thin, pt(0, -1, 4), ring.Inside}, {thin, pt(-1, -1, 2), ring.Boundary}, {thin, pt(4000, 3999, 2), ring.Boundary}, {thin, pt(4001, 3999, 2), ring.Outside}, {thin, pt(2000*maxDen-1, 2000*maxDen-2, maxDen), ring.Inside}, {thin, pt(2000*maxDen-1, 2000*maxDen, maxDen), ring.Outside}, {thin, pt(2-2000*maxDen, 1-2000*maxDen, maxDen), ring.Outside},
	} {
		if n := ring.WherePoint(c.r, c.p); n != c.want {
			t.Errorf("%v of %v: %d, not %d", c.p, c.r, n, c.want)
		}
	}
}

// P8.1: rational points that are not valid lie outside, even those that would lie inside or on the boundary.
func TestPointsThatAreNotValid(t *testing.T) {
	square := list(-2000, -2000, 2000, -2000, 2000, 2000, -2000, 2000)
	for _, p := range []api.Point{
		{}, {X: 2, Y: 4, Den: 2}, {Den: 2}, {X: -3, Y: 6, Den: 9}, {X: 4000, Y: 2, Den: 2}, {X: 1, Y: 1}, {X: 1, Y: 1, Den: -1}, {X: -1, Y: -1, Den: -2}, {X: 2000, Den: -1},
		{X: 1, Y: 1, Den: maxDen + 1}, {X: 1, Den: maxDen + 1}, {Y: 1, Den: 1 << 32}, {X: 1, Y: 1, Den: 1 << 62}, {X: 1, Y: 1, Den: most}, {X: 1, Y: 1, Den: least}, {X: most, Y: most, Den: most}, {X: least, Y: least, Den: least}, {X: 4001, Y: 0, Den: 1}, {X: 0, Y: least, Den: 1}, {X: most, Y: 1, Den: 1}, {X: 12001, Y: 1, Den: 3},
	} {
		if n := ring.WherePoint(square, p); n != ring.Outside {
			t.Errorf("%v: %d", p, n)
		}
	}
}

// P8.1: every point lies outside of a list that is not valid.
func TestWhereOfBrokenRings(t *testing.T) {
	for _, r := range notRings() {
		l := append(grid(v(-1, -1), v(5, 5)), v(1999, 1999), v(0, 1999))
		for _, p := range append(l, r[:min(len(r), 50)]...) {
			if ring.Where(r, p) != ring.Outside || ring.WherePoint(r, seg.PointOf(p)) != ring.Outside {
				t.Errorf("%v of %v: %d, %d", p, r, ring.Where(r, p), ring.WherePoint(r, seg.PointOf(p)))
			}
		}
		for _, p := range []api.Point{pt(1, 1, 2), pt(3, 1, 2), pt(1, 0, 2), pt(5, 1, 4), pt(-1, -1, 2)} {
			if n := ring.WherePoint(r, p); n != ring.Outside {
				t.Errorf("%v of %v: %d", p, r, n)
			}
		}
	}
}
