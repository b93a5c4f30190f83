package shape_test

import (
	"math/rand"
	"slices"
	"testing"

	"fretsaw/api"
	"fretsaw/ring"
	"fretsaw/shape"
)

// P12.1: known points of known shapes: inside, in holes, on the boundaries of all rings, at vertices, at the height of vertices, outside, and beyond the limits.
func TestKnownWhere(t *testing.T) {
	one := with(square(0, 0, 6), square(2, 2, 2))
	two := with(list(6, 6, 0, 6, 0, 0, 6, 0), square(3, 3, 2), square(1, 1, 1))
	around := with(spiked(), list(1, 1, 2, 1, 2, 4, 4, 4, 4, 1, 5, 1, 5, 5, 1, 5))
	whole := with(square(-limit, -limit, 2*limit), square(1-limit, 1-limit, 2*limit-2))
	for _, c := range []struct {
		s    api.Shape
		want int
		l    []api.Vec
	}{
		{one, ring.Inside, list(1, 1, 5, 5, 1, 3, 5, 3, 1, 2, 5, 2, 1, 4, 5, 4, 2, 1, 3, 5)},
		{one, ring.Boundary, list(0, 0, 6, 0, 6, 6, 0, 6, 3, 0, 6, 2, 4, 6, 0, 5, 2, 2, 4, 2, 4, 4, 2, 4, 3, 2, 4, 3, 3, 4, 2, 3)},
		{one, ring.Outside, list(3, 3, -1, 3, 7, 3, 3, -1, 3, 7, 7, 7, -1, 0, 7, 2, 7, 4, 8001, 3, -4001, 3, 3, 4001)},
		{two, ring.Inside, list(1, 3, 1, 5, 2, 3, 3, 1, 3, 2, 5, 1, 2, 4)},
		{two, ring.Boundary, list(1, 1, 2, 1, 2, 2, 1, 2, 3, 3, 4, 3, 5, 3, 5, 4, 5, 5, 3, 4, 3, 5, 6, 6, 0, 3)},
		{two, ring.Outside, list(4, 4, -1, -1, 7, 4, 4, 7)},
		{around, ring.Outside, list(3, 0, 3, 1, 3, 2, -1, 1, 0, -1, 7, 3)},
		{around, ring.Boundary, list(3, 3, 2, 0, 4, 0, 2, 4, 3, 4, 4, 4, 2, 2, 4, 2, 1, 3, 5, 5, 1, 1)},
		{whole, ring.Boundary, list(limit, limit, -limit, 0, limit-1, limit-1, 1-limit, 0, 0, 1-limit, 5, limit)},
		{whole, ring.Outside, list(0, 0, limit-2, limit-2, 2-limit, 5, limit+1, 0, 0, -limit-1, 4000, 4000, 4001, 0, 1<<32, 0, 0, 1<<62, most, most, least, least, least, 0, 0, most, most, least, -1<<62, 1)},
	} {
		for _, p := range c.l {
			if n := shape.Where(c.s, p); n != c.want {
				t.Errorf("%v of %v: %d, not %d", p, c.s, n, c.want)
			}
			if api.MaxSum >= max(p.X, -p.X, p.Y, -p.Y) && shape.WherePoint(c.s, pt(p.X, p.Y, 1)) != c.want {
				t.Errorf("%v of %v, as a rational point: %d, not %d", p, c.s, shape.WherePoint(c.s, pt(p.X, p.Y, 1)), c.want)
			}
		}
	}
}

// P12.1: known rational points: in holes and on their edges, a hair beside them, and with the greatest numerators.
func TestKnownWherePoint(t *testing.T) {
	one := with(square(0, 0, 6), square(2, 2, 2))
	thin := with(square(-limit, -limit, 2*limit), list(-1999, -1999, 1999, 1998, 1999, 1999))
	for _, c := range []struct {
		s    api.Shape
		want int
		l    []api.Point
	}{
		{one, ring.Inside, []api.Point{pt(1, 1, 2), pt(3, 3, 2), pt(9, 9, 2), pt(5, 3, 2), pt(1, 1, maxDen), pt(2*maxDen-1, 3*maxDen, maxDen), pt(4*maxDen+1, 4*maxDen-1, maxDen), pt(6*maxDen-1, 6*maxDen-1, maxDen)}},
		{one, ring.Boundary, []api.Point{pt(5, 4, 2), pt(4, 5, 2), pt(5, 8, 2), pt(7, 4, 2), pt(1, 0, 2), pt(12, 1, 2), pt(0, 7, 3), pt(5, 18, 3), pt(2*maxDen+1, 2*maxDen, maxDen), pt(4*maxDen, 4*maxDen-1, maxDen), pt(1, 0, maxDen)}},
		{one, ring.Outside, []api.Point{pt(5, 5, 2), pt(7, 7, 2), pt(-1, 1, 2), pt(13, 1, 2), pt(1, -1, 3), pt(1, 19, 3), pt(2*maxDen+1, 2*maxDen+1, maxDen), pt(4*maxDen-1, 4*maxDen-1, maxDen), pt(-1, 1, maxDen), pt(6*maxDen+1, 6*maxDen, maxDen), pt(4000*maxDen, 1, maxDen), pt(1, -4000*maxDen, maxDen)}},
		{thin, ring.Boundary, []api.Point{pt(0, -1, 2), pt(0, 0, 1), pt(3998, 3997, 2), pt(4000, 1, 2), pt(2000*maxDen, 1, maxDen)}},
		{thin, ring.Outside, []api.Point{pt(0, -1, 3), pt(0, -1, maxDen), pt(1999*maxDen-1, 1999*maxDen-2, maxDen)}},
		{thin, ring.Inside, []api.Point{pt(0, -2, 3), pt(0, 1, maxDen), pt(1999*maxDen-1, 1999*maxDen, maxDen), pt(3999, 3999, 2), pt(2000*maxDen-1, 1-2000*maxDen, maxDen)}},
	} {
		for _, p := range c.l {
			if n := shape.WherePoint(c.s, p); n != c.want {
				t.Errorf("%v of %v: %d, not %d", p, c.s, n, c.want)
			}
		}
	}
}

// P12.1: every integer point of and around narrow shapes, against the model.
func TestWhere(t *testing.T) {
	counts := [3]int{}
	for _, s := range narrow() {
		for _, p := range grid(around(s.Outer)) {
			want := placeOf(s, pt(p.X, p.Y, 1))
			counts[want]++
			if n := shape.Where(s, p); n != want {
				t.Errorf("%v of %v: %d, not %d", p, s, n, want)
			}
		}
	}
	if slices.Min(counts[:]) < 5000 {
		t.Errorf("only these points were tried: %v", counts)
	}
}

// rationals has rational points of a shape: on its edges, just beside them, and in its box, with denominators of all sizes.
func rationals(source *rand.Rand, s api.Shape) []api.Point {
	var l []api.Point
	for _, r := range ringsIn(s) {
		for i, a := range r {
			b := r[(i+1)%len(r)]
			den := 1 + source.Intn([]int{2, 9, 1000}[source.Intn(3)])
			n, fine := source.Intn(den+1), maxDen/den
			x, y := a.X*den+n*(b.X-a.X), a.Y*den+n*(b.Y-a.Y)
			l = append(l, pt(x, y, den), pt(x*fine+1, y*fine, fine*den), pt(x*fine-1, y*fine+1, fine*den), pt(x, y-1, den), pt(x+1, y, den))
		}
	}
	lo, hi := around(s.Outer)
	for range 8 {
		den := 1 + source.Intn([]int{2, 9, 1000, maxDen}[source.Intn(4)])
		l = append(l, pt(lo.X*den+source.Intn((hi.X-lo.X)*den+1), lo.Y*den+source.Intn((hi.Y-lo.Y)*den+1), den))
	}
	return l
}

// P12.1: rational points on edges and off them, against the model.
func TestWherePoint(t *testing.T) {
	source := rand.New(rand.NewSource(1212))
	counts := [3]int{}
	for i, s := range validShapes() {
		for j, p := range rationals(source, s) {
			if len(s.Holes) > 3 && (i+j)%3 != 0 {
				continue
			}
			want := placeOf(s, p)
			counts[want] += min(1, p.Den-1)
			if n := shape.WherePoint(s, p); n != want {
				t.Errorf("%v of %v: %d, not %d", p, s, n, want)
			}
		}
	}
	if slices.Min(counts[:]) < 2000 {
		t.Errorf("only these points were tried: %v", counts)
	}
}

// P12.1: points that are not valid lie outside, even where their quotients would lie inside or on the boundary.
func TestPointsThatAreNotValid(t *testing.T) {
	for _, s := range knownShapes()[:20] {
		for _, a := range s.Outer {
			for _, p := range []api.Point{{X: a.X, Y: a.Y}, {X: -a.X, Y: -a.Y, Den: -1}, {X: 2 * a.X, Y: 2 * a.Y, Den: 2}, {X: 6 * a.X, Y: 6*a.Y + 3, Den: 3}, {X: a.X*maxDen + a.X, Y: a.Y*maxDen + a.Y, Den: maxDen + 1}} {
				if n := shape.WherePoint(s, p); n != ring.Outside {
					t.Errorf("%v of %v: %d", p, s, n)
				}
			}
		}
	}
	s := with(square(0, 0, 6), square(2, 2, 2))
	for _, p := range []api.Point{{}, {X: 1, Y: 1}, {X: 2, Y: 2, Den: 2}, {X: 6, Y: 4, Den: 2}, {X: 3, Y: 3, Den: 3}, {X: -1, Y: -1, Den: -1}, {X: maxDen + 1, Y: maxDen + 2, Den: maxDen + 1}, {X: 1, Y: 1, Den: maxDen + 1}, {X: 1 << 40, Y: 1<<40 + 1, Den: 1 << 40}, {X: most, Y: most - 1, Den: most}, {X: least, Y: least, Den: least}, {X: 1, Y: 1, Den: least}, {X: most, Y: least, Den: 1}, {X: least, Y: most, Den: maxDen}, {X: 1, Y: 0, Den: 1 << 62}} {
		if n := shape.WherePoint(s, p); n != ring.Outside {
			t.Errorf("%v of %v: %d", p, s, n)
		}
	}
}

// P12.1: all points lie outside of shapes that are not valid.
func TestWhereOfBrokenShapes(t *testing.T) {
	for _, s := range allBroken() {
		for _, p := range []api.Vec{v(1, 1), v(0, 0), v(2, 3), v(3, 3), v(6, 6), v(limit, limit), v(1-limit, 1-limit), v(least, most)} {
			if shape.Where(s, p) != ring.Outside {
				t.Errorf("%v of %v: %d", p, s, shape.Where(s, p))
			}
		}
		for _, p := range []api.Point{pt(1, 1, 2), pt(5, 4, 2), pt(11, 11, 2), pt(1, 0, 2), pt(1, 3, 3), {}, {X: least, Y: 1, Den: most}} {
			if shape.WherePoint(s, p) != ring.Outside {
				t.Errorf("%v of %v: %d", p, s, shape.WherePoint(s, p))
			}
		}
	}
}
