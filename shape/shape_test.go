package shape_test

import (
	"slices"
	"testing"

	"fretsaw/api"
	"fretsaw/ring"
	"fretsaw/shape"
)

// The chapter's example.
func TestExample(t *testing.T) {
	s := with(list(0, 0, 6, 0, 6, 6, 0, 6), list(2, 2, 4, 2, 4, 4, 2, 4))
	if !shape.Valid(s) || shape.Area2(s) != 64 {
		t.Errorf("%v: %v, the doubled area %d", s, shape.Valid(s), shape.Area2(s))
	}
	if in, out, on := shape.Where(s, v(1, 1)), shape.Where(s, v(3, 3)), shape.Where(s, v(2, 3)); in != ring.Inside || out != ring.Outside || on != ring.Boundary {
		t.Errorf("(1, 1), (3, 3) and (2, 3) are at %d, %d and %d", in, out, on)
	}
}

// P12.1: known shapes are valid, with any number of holes up to 6, and of vertices up to 80.
func TestKnownShapes(t *testing.T) {
	for _, s := range knownShapes() {
		if !shape.Valid(s) {
			t.Errorf("%v is not valid", s)
		}
	}
}

// P12.1: shapes that are not valid, by each rule of the chapter, have no area, no box and no canonical shape, all points lie outside, and they are neither moved nor turned.
func TestBrokenShapes(t *testing.T) {
	for name, l := range brokenShapes() {
		for _, s := range l {
			if shape.Valid(s) || shape.Area2(s) != 0 || !isZero(shape.Canonical(s)) {
				t.Errorf("%s: %v: %v, %d, %v", name, s, shape.Valid(s), shape.Area2(s), shape.Canonical(s))
			}
			if b, ok := shape.Box(s); ok || b != (api.Box{}) {
				t.Errorf("%s: the box of %v is %v, %v", name, s, b, ok)
			}
			for _, r := range ringsIn(s)[:min(3, len(s.Holes)+1)] {
				for _, a := range r[:min(5, len(r))] {
					if shape.Where(s, a) != ring.Outside || shape.WherePoint(s, pt(a.X, a.Y, 1)) != ring.Outside || shape.WherePoint(s, api.Point{X: 2*(a.X%limit) + 1, Y: 2*(a.Y%limit) + 1, Den: 2}) != ring.Outside {
						t.Errorf("%s: %v lies at %d of %v", name, a, shape.Where(s, a), s)
					}
				}
			}
			if m, e := shape.Move(s, api.Vec{}); e != api.ErrShape || !isZero(m) {
				t.Errorf("%s: %v is moved to %v, %v", name, s, m, e)
			}
			if m, e := shape.Turn(s, 0); e != api.ErrShape || !isZero(m) {
				t.Errorf("%s: %v is turned to %v, %v", name, s, m, e)
			}
			if m, e := shape.Place(s, 0, api.Vec{}); e != api.ErrShape || !isZero(m) {
				t.Errorf("%s: %v is placed as %v, %v", name, s, m, e)
			}
		}
	}
}

// P12.1: all triangles of a small grid as holes, alone and beside another hole, against the model.
func TestSmallShapes(t *testing.T) {
	counts := map[bool]int{}
	for _, s := range smallShapes() {
		want := isShape(s)
		counts[want]++
		if shape.Valid(s) != want {
			t.Errorf("%v: %v", s, !want)
		}
	}
	if counts[true] < 5000 || counts[false] < 50000 {
		t.Errorf("only these shapes were tried: %v", counts)
	}
}

// P12.1: random shapes of which a ring is changed, against the model.
func TestChangedShapes(t *testing.T) {
	counts := map[bool]int{}
	for _, s := range changedShapes() {
		want := isShape(s)
		counts[want]++
		if shape.Valid(s) != want {
			t.Errorf("%v: %v", s, !want)
		}
	}
	if min(counts[true], counts[false]) < 500 {
		t.Errorf("only these shapes were tried: %v", counts)
	}
}

// P12.1: known doubled areas.
func TestKnownAreas(t *testing.T) {
	for _, c := range []struct {
		s    api.Shape
		want int
	}{
		{with(square(0, 0, 6)), 72}, {with(list(0, 0, 3, 0, 0, 3)), 9}, {with(list(1, 0, 1, 1, 0, 1)), 1}, {with(square(0, 0, 3), square(1, 1, 1)), 16}, {with(square(0, 0, 6), square(1, 1, 4)), 40}, {with(square(0, 0, 6), square(1, 1, 1), square(3, 3, 2)), 62}, {with(square(0, 0, 6), list(1, 1, 4, 1, 1, 4), list(5, 5, 2, 5, 5, 2)), 54},
		{with(square(0, 0, 14), squares(6)...), 380}, {with(spiked(), list(1, 4, 5, 4, 3, 5)), 62}, {with(square(-2, -1, 8), bay(), square(1, 2, 1)), 100}, {with(square(-limit, -limit, 2*limit)), 32000000}, {with(square(-limit, -limit, 2*limit), square(1-limit, 1-limit, 2*limit-2)), 31992}, {with(square(-limit, -limit, 2*limit), list(-1999, -1999, 1999, 1998, 1999, 1999)), 31996002},
		{api.Shape{}, 0}, {with(backwards(square(0, 0, 6))), 0}, {with(square(0, 0, 6), backwards(square(2, 2, 2))), 0}, {with(square(0, 0, 6), square(7, 7, 1)), 0}, {with(square(2, 2, 2), square(0, 0, 6)), 0}, {with(square(0, 0, 6), square(2, 2, 2), nil), 0},
	} {
		if n := shape.Area2(c.s); n != c.want {
			t.Errorf("the doubled area of %v is %d, want %d", c.s, n, c.want)
		}
	}
}

// P12.1: the doubled area is that of the outer ring less those of all holes.
func TestAreas(t *testing.T) {
	for _, s := range validShapes() {
		want := trapezoids(s.Outer)
		for _, hole := range s.Holes {
			want -= trapezoids(hole)
		}
		if n := shape.Area2(s); n != want {
			t.Errorf("the doubled area of %v is %d, want %d", s, n, want)
		}
	}
}

// P12.1: the outer ring and the holes, and all their edges in order, of shapes with lists of any length.
func TestKnownRingsAndEdges(t *testing.T) {
	a, b, c := v(0, 0), v(3, 0), v(least, most)
	for _, k := range []struct {
		s     api.Shape
		rings []api.Ring
		edges []api.Seg
	}{
		{api.Shape{}, []api.Ring{nil}, nil}, {api.Shape{Outer: api.Ring{}, Holes: []api.Ring{}}, []api.Ring{nil}, nil}, {with(nil, nil, api.Ring{}), []api.Ring{nil, nil, nil}, nil},
		{with(api.Ring{a}), []api.Ring{{a}}, nil}, {with(nil, api.Ring{c}), []api.Ring{nil, {c}}, nil},
		{with(api.Ring{a, c}), []api.Ring{{a, c}}, []api.Seg{{A: a, B: c}, {A: c, B: a}}}, {with(api.Ring{b, b}), []api.Ring{{b, b}}, []api.Seg{{A: b, B: b}, {A: b, B: b}}}, {with(nil, api.Ring{a, b}), []api.Ring{nil, {a, b}}, []api.Seg{{A: a, B: b}, {A: b, B: a}}},
		{with(api.Ring{a, b, c}), []api.Ring{{a, b, c}}, []api.Seg{{A: a, B: b}, {A: b, B: c}, {A: c, B: a}}}, {with(api.Ring{c, a}, api.Ring{b}, api.Ring{b, a, c}, nil), []api.Ring{{c, a}, {b}, {b, a, c}, nil}, []api.Seg{{A: c, B: a}, {A: a, B: c}, {A: b, B: a}, {A: a, B: c}, {A: c, B: b}}},
		{with(list(0, 0, 9, 0, 0, 9), list(2, 1, 1, 2, 1, 1)), []api.Ring{list(0, 0, 9, 0, 0, 9), list(2, 1, 1, 2, 1, 1)}, []api.Seg{{A: v(0, 0), B: v(9, 0)}, {A: v(9, 0), B: v(0, 9)}, {A: v(0, 9), B: v(0, 0)}, {A: v(2, 1), B: v(1, 2)}, {A: v(1, 2), B: v(1, 1)}, {A: v(1, 1), B: v(2, 1)}}},
	} {
		if rings := shape.Rings(k.s); !slices.EqualFunc(rings, k.rings, slices.Equal[api.Ring]) {
			t.Errorf("the rings of %v are %v", k.s, rings)
		}
		if edges := shape.Edges(k.s); !slices.Equal(edges, k.edges) {
			t.Errorf("the edges of %v are %v", k.s, edges)
		}
	}
}

// P12.1: the rings and edges of all shapes, valid or not.
func TestRingsAndEdges(t *testing.T) {
	for _, s := range slices.Concat(validShapes(), allBroken(), changedShapes()) {
		if rings := shape.Rings(s); !slices.EqualFunc(rings, ringsIn(s), slices.Equal[api.Ring]) {
			t.Errorf("the rings of %v are %v", s, rings)
		}
		var want []api.Seg
		for _, r := range ringsIn(s) {
			if len(r) < 2 {
				continue
			}
			for i, a := range r {
				want = append(want, api.Seg{A: a, B: r[(i+1)%len(r)]})
			}
		}
		if edges := shape.Edges(s); !slices.Equal(edges, want) {
			t.Errorf("the edges of %v are %v", s, edges)
		}
	}
}

// P12.1: the box of a valid shape is that of its outer ring.
func TestBox(t *testing.T) {
	for _, s := range validShapes() {
		lo, hi := around(s.Outer)
		want := api.Box{Lo: plus(lo, v(1, 1)), Hi: plus(hi, v(-1, -1))}
		if b, ok := shape.Box(s); !ok || b != want {
			t.Errorf("the box of %v is %v, %v", s, b, ok)
		}
	}
	if b, ok := shape.Box(with(list(5, -1, 7, 3, 0, 1), square(4, 1, 1))); !ok || b != (api.Box{Lo: v(0, -1), Hi: v(7, 3)}) {
		t.Errorf("the box of a triangle is %v, %v", b, ok)
	}
}

// P12.1: shapes are the same if all vertices of all rings are, in the same order, whether they are valid or not.
func TestSame(t *testing.T) {
	a, b := square(1, 1, 1), square(3, 3, 2)
	s := with(square(0, 0, 6), a, b)
	for _, c := range []struct {
		s, t api.Shape
		want bool
	}{
		{s, s, true}, {s, copyOf(s), true}, {with(s.Outer), with(s.Outer, []api.Ring{}...), true}, {api.Shape{}, api.Shape{Outer: api.Ring{}, Holes: []api.Ring{}}, true}, {api.Shape{Holes: []api.Ring{}}, api.Shape{Outer: api.Ring{}}, true}, {with(s.Outer, nil), with(s.Outer, api.Ring{}), true}, {with(nil, api.Ring{}, nil), with(api.Ring{}, nil, api.Ring{}), true}, {with(list(least, most), list(7, 7)), with(list(least, most), list(7, 7)), true},
		{s, with(s.Outer, b, a), false}, {s, with(s.Outer, a), false}, {s, with(s.Outer, b), false}, {s, with(s.Outer), false}, {s, with(s.Outer, a, b, a), false}, {s, with(s.Outer, a, b, nil), false}, {with(s.Outer), with(s.Outer, nil), false}, {api.Shape{}, with(nil, nil), false}, {with(nil, nil), with(nil, nil, nil), false}, {with(nil, a), with(a), false}, {s, api.Shape{}, false},
		{s, with(turned(s.Outer, 1), a, b), false}, {s, with(s.Outer, turned(a, 2), b), false}, {s, with(s.Outer, a, turned(b, 3)), false}, {s, with(backwards(s.Outer), a, b), false}, {s, with(s.Outer, a, backwards(b)), false}, {s, with(square(0, 0, 7), a, b), false}, {s, with(s.Outer, a, square(3, 3, 1)), false}, {s, with(s.Outer, square(1, 1, 2), b), false}, {with(list(0, 0, 3, 0)), with(list(0, 0, 3, 0, 0, 3)), false}, {with(nil, list(0, 0, 3, 0)), with(nil, list(0, 0, 3, 0, 0, 3)), false},
	} {
		if shape.Same(c.s, c.t) != c.want || shape.Same(c.t, c.s) != c.want {
			t.Errorf("%v and %v: %v and %v", c.s, c.t, shape.Same(c.s, c.t), shape.Same(c.t, c.s))
		}
	}
	l := slices.Concat(knownShapes(), allBroken())
	for _, s := range l {
		for _, other := range l {
			if shape.Same(s, other) != isSame(s, other) {
				t.Errorf("%v and %v: %v", s, other, shape.Same(s, other))
			}
		}
	}
}

// P12.1: rectangles of all sizes begin with their lowest left corner, and are valid and canonical.
func TestRectangle(t *testing.T) {
	for _, c := range []struct{ lo, hi api.Vec }{
		{v(0, 0), v(1, 1)}, {v(1, 2), v(3, 5)}, {v(-3, -7), v(-2, 4)}, {v(0, 0), v(1900, 1)}, {v(-limit, -limit), v(limit, limit)}, {v(-limit, 3), v(limit, 4)}, {v(3, -limit), v(4, limit)}, {v(limit-1, limit-1), v(limit, limit)}, {v(-limit, -limit), v(1-limit, 1-limit)}, {v(-limit, limit-1), v(1-limit, limit)},
	} {
		s := shape.Rectangle(c.lo, c.hi)
		if !isSame(s, with(list(c.lo.X, c.lo.Y, c.hi.X, c.lo.Y, c.hi.X, c.hi.Y, c.lo.X, c.hi.Y))) || !shape.Valid(s) || !isSame(s, shape.Canonical(s)) {
			t.Errorf("%v to %v: %v", c.lo, c.hi, s)
		}
		if area := 2 * (c.hi.X - c.lo.X) * (c.hi.Y - c.lo.Y); shape.Area2(s) != area {
			t.Errorf("%v to %v: the doubled area %d", c.lo, c.hi, shape.Area2(s))
		}
	}
}

// P12.1: there is no rectangle for corners that are equal or in the wrong order in a coordinate, nor beyond the limits.
func TestNoRectangle(t *testing.T) {
	for _, c := range []struct{ lo, hi api.Vec }{
		{v(0, 0), v(0, 0)}, {v(5, 5), v(5, 5)}, {v(1, 0), v(1, 5)}, {v(0, 1), v(5, 1)}, {v(3, 5), v(1, 2)}, {v(3, 2), v(1, 5)}, {v(1, 5), v(3, 2)}, {v(limit, limit), v(-limit, -limit)}, {v(limit, limit), v(limit, limit)}, {v(2, 1), v(1, 2)}, {v(1, 2), v(2, 1)},
	} {
		if s := shape.Rectangle(c.lo, c.hi); !isZero(s) {
			t.Errorf("%v to %v: %v", c.lo, c.hi, s)
		}
	}
	for _, n := range []int{limit + 1, 4000, 1 << 32, 1 << 62, most - 1, most, -limit - 1, -4000, -1 << 32, -1 << 62, least + 1, least} {
		for _, c := range []struct{ lo, hi api.Vec }{
			{v(0, 0), v(n, 5)}, {v(0, 0), v(5, n)}, {v(0, 0), v(n, n)}, {v(n, -5), v(0, 0)}, {v(-5, n), v(0, 0)}, {v(n, n), v(0, 0)}, {v(n, n), v(n+1, n+1)}, {v(n-1, n-1), v(n, n)}, {v(n, n), v(n, n)}, {v(n, 0), v(-n, 5)}, {v(-n, 0), v(n, 5)}, {v(-limit, -limit), v(limit, n)}, {v(n, -limit), v(limit, limit)}, {v(-limit, -limit), v(n, limit)}, {v(-limit, n), v(limit, limit)},
		} {
			if s := shape.Rectangle(c.lo, c.hi); !isZero(s) {
				t.Errorf("%v to %v: %v", c.lo, c.hi, s)
			}
		}
	}
}
