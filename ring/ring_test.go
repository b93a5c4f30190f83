package ring_test

import (
	"math/rand"
	"slices"
	"testing"

	"fretsaw/api"
	"fretsaw/ring"
)

// P8.1: where points lie has the numbers of the chapter, and so has the number of points.
func TestNumbers(t *testing.T) {
	if [4]int{ring.Outside, ring.Boundary, ring.Inside, ring.MaxPoints} != [4]int{0, 1, 2, 200} {
		t.Error(ring.Outside, ring.Boundary, ring.Inside, ring.MaxPoints)
	}
}

// P8.1: known rings are valid, of all sizes up to 40 vertices and the coordinate 2000, and convex or not.
func TestKnownRings(t *testing.T) {
	for _, r := range convexRings() {
		if !ring.Valid(r) || !ring.Convex(r) {
			t.Errorf("%v: valid: %v, convex: %v", r, ring.Valid(r), ring.Convex(r))
		}
	}
	for _, r := range otherRings() {
		if !ring.Valid(r) || ring.Convex(r) {
			t.Errorf("%v: valid: %v, convex: %v", r, ring.Valid(r), ring.Convex(r))
		}
	}
}

// P8.1: lists that are not valid, by each rule of the chapter, are neither convex nor have an area, a box or a canonical ring, and are not moved.
func TestBrokenRings(t *testing.T) {
	for name, l := range brokenRings() {
		for _, r := range l {
			if ring.Valid(r) || ring.Convex(r) || ring.Area2(r) != 0 || len(ring.Canonical(r)) != 0 {
				t.Errorf("%s: %v: %v, %v, %d, %v", name, r, ring.Valid(r), ring.Convex(r), ring.Area2(r), ring.Canonical(r))
			}
			if b, ok := ring.Box(r); ok || b != (api.Box{}) {
				t.Errorf("%s: the box of %v is %v, %v", name, r, b, ok)
			}
			for _, by := range []api.Vec{v(0, 0), v(1, -1), v(4001, 0), v(least, most)} {
				if m, e := ring.Move(r, by); e != api.ErrShape || len(m) != 0 {
					t.Errorf("%s: %v is moved to %v, %v", name, r, m, e)
				}
			}
		}
	}
}

// P8.1: all lists of 3 to 5 points of a small grid, against the model.
func TestSmallLists(t *testing.T) {
	counts := map[bool]int{}
	for _, r := range smallLists() {
		want := isRing(r)
		counts[want]++
		if ring.Valid(r) != want {
			t.Errorf("%v: %v", r, !want)
		}
	}
	if counts[true] < 1000 || counts[false] < 10000 {
		t.Errorf("only these lists were tried: %v", counts)
	}
}

// P8.1: random lists, many of which would be valid but for one vertex that is moved, against the model.
func TestRandomLists(t *testing.T) {
	source := rand.New(rand.NewSource(88))
	counts := map[bool]int{}
	for range 20 {
		for _, r := range rings() {
			r = slices.Clone(r)
			i, j, k := source.Intn(len(r)), source.Intn(len(r)), source.Intn(len(r))
			switch source.Intn(4) {
			case 0:
				r[i] = plus(r[i], v(source.Intn(5)-2, source.Intn(5)-2))
			case 1:
				r[i] = r[j]
			case 2:
				r[i] = v((r[j].X+r[k].X)/2, (r[j].Y+r[k].Y)/2)
			case 3:
				r[i], r[j] = r[j], r[i]
			}
			want := isRing(r)
			counts[want]++
			if ring.Valid(r) != want {
				t.Errorf("%v: %v", r, !want)
			}
		}
	}
	if counts[true] < 1000 || counts[false] < 1000 {
		t.Errorf("only these lists were tried: %v", counts)
	}
}

// P8.1: known doubled areas.
func TestKnownAreas(t *testing.T) {
	for _, c := range []struct {
		r    api.Ring
		want int
	}{
		{list(0, 0, 3, 0, 0, 3), 9}, {list(0, 0, 4, 0, 4, 4, 0, 4), 32}, {list(-1, -1, 1, -1, 0, 1), 4}, {list(0, 0, 4, 0, 4, 4, 2, 1), 12}, {list(0, 0, 3, 0, 3, 1, 1, 1, 1, 3, 0, 3), 10}, {list(0, 0, 5, 0, 5, 4, 4, 4, 4, 1, 1, 1, 1, 4, 0, 4), 22},
		{list(1999, 2000, 2000, 1999, 2000, 2000), 1}, {list(-2000, -2000, 2000, 1999, 2000, 2000), 4000}, {list(-2000, -2000, 2000, -2000, 2000, 2000, -2000, 2000), 32000000}, {list(1995, -2000, 2000, -2000, 2000, -1993), 35},
	} {
		if n := ring.Area2(c.r); n != c.want {
			t.Errorf("the doubled area of %v is %d", c.r, n)
		}
	}
}

// P8.1: the doubled area, against that between the edges and the axis.
func TestAreas(t *testing.T) {
	for _, r := range rings() {
		if ring.Area2(r) != trapezoids(r) {
			t.Errorf("the doubled area of %v is %d", r, ring.Area2(r))
		}
	}
}

// P8.1: the edges of any list of at least 2 points lead from each one to the next one, and around the end.
func TestEdges(t *testing.T) {
	for _, c := range []struct {
		r    api.Ring
		want []api.Seg
	}{
		{nil, nil}, {api.Ring{}, nil}, {list(7, 8), nil}, {list(least, most), nil},
		{list(1, 2, 3, 4), []api.Seg{{A: v(1, 2), B: v(3, 4)}, {A: v(3, 4), B: v(1, 2)}}},
		{list(5, 5, 5, 5), []api.Seg{{A: v(5, 5), B: v(5, 5)}, {A: v(5, 5), B: v(5, 5)}}},
		{list(0, 0, 3, 0, 0, 3), []api.Seg{{B: v(3, 0)}, {A: v(3, 0), B: v(0, 3)}, {A: v(0, 3)}}},
		{list(0, 0, 0, 3, 3, 0), []api.Seg{{B: v(0, 3)}, {A: v(0, 3), B: v(3, 0)}, {A: v(3, 0)}}},
		{list(least, 0, 0, most, 0, 0), []api.Seg{{A: v(least, 0), B: v(0, most)}, {A: v(0, most)}, {B: v(least, 0)}}},
	} {
		if l := ring.Edges(c.r); !slices.Equal(l, c.want) {
			t.Errorf("the edges of %v are %v", c.r, l)
		}
	}
	for _, r := range append(rings(), comb(41), comb(1000), list(0, 0, 4, 4, 4, 0, 0, 4)) {
		l := ring.Edges(r)
		if len(l) != len(r) {
			t.Errorf("%v has %d edges", r, len(l))
			continue
		}
		for i, e := range l {
			if e.A != r[i] || e.B != next(r, i) {
				t.Errorf("the edge %d of %v is %v", i, r, e)
			}
		}
	}
}

// P8.1: known boxes, and the box of a ring contains its vertices, with one of them on each side.
func TestBox(t *testing.T) {
	for _, c := range []struct {
		r    api.Ring
		want api.Box
	}{
		{list(0, 0, 4, 0, 4, 4, 2, 1), api.Box{Hi: v(4, 4)}}, {list(5, -1, 7, 3, 0, 1), api.Box{Lo: v(0, -1), Hi: v(7, 3)}}, {list(0, -2, 2, 0, 0, 2, -2, 0), api.Box{Lo: v(-2, -2), Hi: v(2, 2)}}, {list(-9, -8, -3, -7, -4, -5), api.Box{Lo: v(-9, -8), Hi: v(-3, -5)}}, {list(-2000, 0, 0, -2000, 2000, 0, 0, 2000), api.Box{Lo: v(-2000, -2000), Hi: v(2000, 2000)}},
	} {
		if b, ok := ring.Box(c.r); !ok || b != c.want {
			t.Errorf("the box of %v is %v, %v", c.r, b, ok)
		}
	}
	for _, r := range rings() {
		lo, hi := around(r)
		if b, ok := ring.Box(r); !ok || b != (api.Box{Lo: plus(lo, v(1, 1)), Hi: plus(hi, v(-1, -1))}) {
			t.Errorf("the box of %v is %v, %v", r, b, ok)
		}
	}
}

// P8.1: a valid ring is convex exactly if all its vertices lie to the left of each edge, or on it.
func TestConvex(t *testing.T) {
	counts := map[bool]int{}
	for _, r := range append(rings(), smallRings()...) {
		want := true
		for i, a := range r {
			b := next(r, i)
			for _, c := range r {
				want = want && (b.X-a.X)*(c.Y-a.Y) >= (b.Y-a.Y)*(c.X-a.X)
			}
		}
		counts[want]++
		if ring.Convex(r) != want {
			t.Errorf("%v: %v", r, !want)
		}
	}
	if min(counts[true], counts[false]) < 300 {
		t.Errorf("only these rings were tried: %v", counts)
	}
}

// P8.1: rings are the same with the same vertices in the same order, valid or not; nil and empty ones are.
func TestSame(t *testing.T) {
	triangle := list(0, 0, 3, 0, 0, 3)
	for _, c := range []struct {
		a, b api.Ring
		want bool
	}{
		{nil, nil, true}, {nil, api.Ring{}, true}, {api.Ring{}, api.Ring{}, true}, {nil, list(0, 0), false}, {list(0, 0), list(0, 0), true}, {list(least, most), list(least, most), true}, {list(least, most), list(most, least), false}, {list(1, 2), list(2, 1), false}, {list(1, 2), list(1, 2, 1, 2), false},
		{triangle, list(0, 0, 3, 0, 0, 3), true}, {triangle, list(3, 0, 0, 3, 0, 0), false}, {triangle, list(0, 0, 0, 3, 3, 0), false}, {triangle, list(0, 0, 3, 0), false}, {triangle, list(0, 0, 3, 0, 0, 3, 0, 0), false}, {triangle, list(0, 0, 3, 0, 0, 4), false}, {triangle, list(0, 0, 3, 0, 1, 3), false}, {triangle, list(0, 1, 3, 0, 0, 3), false}, {triangle, nil, false},
		{list(4, 4, 4, 4), list(4, 4, 4, 4), true}, {comb(41), comb(41), true}, {comb(41), comb(40), false}, {comb(1000), comb(1000), true},
	} {
		if ring.Same(c.a, c.b) != c.want || ring.Same(c.b, c.a) != c.want {
			t.Errorf("%v and %v: %v", c.a, c.b, !c.want)
		}
	}
}
