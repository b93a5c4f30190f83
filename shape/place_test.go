package shape_test

import (
	"math/rand"
	"slices"
	"testing"

	"fretsaw/api"
	"fretsaw/shape"
)

// shuffled returns a shape with its holes in another order, and its rings beginning with other vertices.
func shuffled(source *rand.Rand, s api.Shape) api.Shape {
	other := copyOf(s)
	source.Shuffle(len(other.Holes), func(i, j int) { other.Holes[i], other.Holes[j] = other.Holes[j], other.Holes[i] })
	for i, hole := range other.Holes {
		other.Holes[i] = turned(hole, source.Intn(len(hole)))
	}
	other.Outer = turned(other.Outer, source.Intn(len(other.Outer)))
	return other
}

// P12.1: known canonical shapes: the lowest vertex of each ring is the first one, and of the lowest ones the leftmost, and so are the holes ordered.
func TestKnownCanonical(t *testing.T) {
	outer := square(0, 0, 14)
	for _, c := range []struct{ s, want api.Shape }{
		{with(turned(outer, 3)), with(outer)}, {with(list(4, 4, 2, 1, 0, 0, 4, 0)), with(list(0, 0, 4, 0, 4, 4, 2, 1))}, {with(turned(outer, 1), turned(square(2, 2, 2), 2)), with(outer, square(2, 2, 2))},
		{with(outer, square(4, 1, 1), square(1, 1, 1)), with(outer, square(1, 1, 1), square(4, 1, 1))}, {with(outer, square(1, 4, 1), square(1, 1, 1)), with(outer, square(1, 1, 1), square(1, 4, 1))}, {with(outer, square(1, 4, 1), square(4, 1, 1)), with(outer, square(4, 1, 1), square(1, 4, 1))}, {with(outer, square(4, 1, 1), square(1, 4, 1)), with(outer, square(4, 1, 1), square(1, 4, 1))},
		{with(outer, list(1, 3, 4, 1, 4, 4), list(5, 9, 6, 2, 7, 2)), with(outer, list(4, 1, 4, 4, 1, 3), list(6, 2, 7, 2, 5, 9))}, {with(outer, list(6, 2, 7, 2, 5, 9), list(4, 4, 1, 3, 4, 2)), with(outer, list(4, 2, 4, 4, 1, 3), list(6, 2, 7, 2, 5, 9))},
		{with(outer, list(9, 5, 8, 6, 8, 4), list(6, 4, 7, 7, 1, 5), square(1, 1, 2), square(10, 1, 2), square(1, 10, 1), square(4, 1, 1)), with(outer, square(1, 1, 2), square(4, 1, 1), square(10, 1, 2), list(6, 4, 7, 7, 1, 5), list(8, 4, 9, 5, 8, 6), square(1, 10, 1))},
	} {
		if s := shape.Canonical(c.s); !isSame(s, c.want) {
			t.Errorf("%v is made canonical as %v, want %v", c.s, s, c.want)
		}
	}
}

// P12.1: canonical shapes, against the model.
func TestCanonical(t *testing.T) {
	for _, s := range validShapes() {
		if c := shape.Canonical(s); !isSame(c, mappedShape(0, s)) {
			t.Errorf("%v is made canonical as %v", s, c)
		}
	}
}

// P12.1: moves up to the limit in each direction keep the order of all rings and vertices; one beyond it is out of range, and so are vectors of all sizes.
func TestMove(t *testing.T) {
	for i, s := range validShapes() {
		lo, hi := around(s.Outer)
		left, down := -limit-(lo.X+1), -limit-(lo.Y+1)
		right, up := limit-(hi.X-1), limit-(hi.Y-1)
		for _, by := range []api.Vec{{}, v(left, down), v(right, up), v(left, up), v(right, down), v((left+right)/2, (up+down)/2)} {
			if m, e := shape.Move(s, by); e != api.OK || !isSame(m, movedShape(s, by)) {
				t.Errorf("%v, moved by %v: %v, %v", s, by, m, e)
			}
		}
		beyond := []api.Vec{v(left-1, down), v(left, down-1), v(right+1, up), v(right, up+1), v(left-1, up), v(right, down-1), v(4001, 0), v(0, -4001)}
		for _, n := range []int{1 << 32, -1 << 32, 1 << 62, least, least + 1, most, most - 1} {
			beyond = append(beyond, v(n, 0), v(0, n), v(n, n), v(right, n), v(n, down))
		}
		for _, by := range beyond {
			if i%9 != 0 && max(by.X, -by.X, by.Y, -by.Y) > 4001 {
				continue
			}
			if m, e := shape.Move(s, by); e != api.ErrRange || !isZero(m) {
				t.Errorf("%v, moved by %v: %v, %v", s, by, m, e)
			}
		}
	}
}

// P12.1: known moves: the order of rings and vertices is kept, also that of a shape that is not canonical.
func TestKnownMoves(t *testing.T) {
	s := with(list(6, 6, 0, 6, 0, 0, 6, 0), list(5, 5, 3, 5, 3, 3, 5, 3), list(2, 1, 2, 2, 1, 2, 1, 1))
	for _, c := range []struct {
		by   api.Vec
		want api.Shape
		e    api.Errno
	}{
		{v(0, 0), s, api.OK},
		{v(10, -20), with(list(16, -14, 10, -14, 10, -20, 16, -20), list(15, -15, 13, -15, 13, -17, 15, -17), list(12, -19, 12, -18, 11, -18, 11, -19)), api.OK},
		{v(1994, -2000), with(list(2000, -1994, 1994, -1994, 1994, -2000, 2000, -2000), list(1999, -1995, 1997, -1995, 1997, -1997, 1999, -1997), list(1996, -1999, 1996, -1998, 1995, -1998, 1995, -1999)), api.OK},
		{v(1995, 0), api.Shape{}, api.ErrRange}, {v(0, 1995), api.Shape{}, api.ErrRange}, {v(-2001, 0), api.Shape{}, api.ErrRange}, {v(0, -2001), api.Shape{}, api.ErrRange}, {v(most, most), api.Shape{}, api.ErrRange}, {v(least, 0), api.Shape{}, api.ErrRange},
	} {
		if m, e := shape.Move(s, c.by); e != c.e || !isSame(m, c.want) {
			t.Errorf("moved by %v: %v, %v", c.by, m, e)
		}
	}
}

// farVectors has vectors that move every shape out of the limits, and such that do not.
func farVectors() []api.Vec {
	return []api.Vec{v(0, 0), v(1, -1), v(4001, 0), v(0, -5000), v(1<<32, 1<<62), v(least, most), v(most, least)}
}

// P12.1: a shape that is not valid is not moved, wherever the vector leads.
func TestMoveErrors(t *testing.T) {
	for _, s := range allBroken() {
		for _, by := range farVectors() {
			if m, e := shape.Move(s, by); e != api.ErrShape || !isZero(m) {
				t.Errorf("%v is moved by %v to %v, %v", s, by, m, e)
			}
		}
	}
}

// P12.1: a known shape, mapped by each symmetry.
func TestKnownTurns(t *testing.T) {
	s := with(list(0, 4, 0, 0, 6, 0), list(2, 1, 1, 2, 1, 1))
	for n, want := range [8]api.Shape{
		with(list(0, 0, 6, 0, 0, 4), list(1, 1, 2, 1, 1, 2)), with(list(-4, 0, 0, 0, 0, 6), list(-2, 1, -1, 1, -1, 2)), with(list(0, -4, 0, 0, -6, 0), list(-1, -2, -1, -1, -2, -1)), with(list(0, -6, 4, 0, 0, 0), list(1, -2, 2, -1, 1, -1)),
		with(list(-6, 0, 0, 0, 0, 4), list(-2, 1, -1, 1, -1, 2)), with(list(0, -6, 0, 0, -4, 0), list(-1, -2, -1, -1, -2, -1)), with(list(0, -4, 6, 0, 0, 0), list(1, -2, 2, -1, 1, -1)), with(list(0, 0, 4, 0, 0, 6), list(1, 1, 2, 1, 1, 2)),
	} {
		if m, e := shape.Turn(s, n); e != api.OK || !isSame(m, want) {
			t.Errorf("%d maps %v to %v, %v, want %v", n, s, m, e, want)
		}
	}
	two := with(square(0, 0, 6), square(1, 1, 1), square(4, 1, 1), square(1, 4, 1))
	for n, want := range [8][]api.Ring{
		{square(1, 1, 1), square(4, 1, 1), square(1, 4, 1)}, {square(-5, 1, 1), square(-2, 1, 1), square(-2, 4, 1)}, {square(-2, -5, 1), square(-5, -2, 1), square(-2, -2, 1)}, {square(1, -5, 1), square(1, -2, 1), square(4, -2, 1)},
		{square(-5, 1, 1), square(-2, 1, 1), square(-2, 4, 1)}, {square(-2, -5, 1), square(-5, -2, 1), square(-2, -2, 1)}, {square(1, -5, 1), square(1, -2, 1), square(4, -2, 1)}, {square(1, 1, 1), square(4, 1, 1), square(1, 4, 1)},
	} {
		if m, e := shape.Turn(two, n); e != api.OK || !isSame(api.Shape{Holes: m.Holes}, api.Shape{Holes: want}) {
			t.Errorf("%d maps the holes of %v to %v, %v, want %v", n, two, m.Holes, e, want)
		}
	}
}

// P12.1: all symmetries of valid shapes, against the model.
func TestTurn(t *testing.T) {
	for _, s := range validShapes() {
		for n := range 8 {
			if m, e := shape.Turn(s, n); e != api.OK || !isSame(m, mappedShape(n, s)) {
				t.Errorf("%d maps %v to %v, %v", n, s, m, e)
			}
		}
	}
}

// P12.1: numbers that are no symmetry come first, then shapes that are not valid, and for Place then results beyond the limits.
func TestTurnErrors(t *testing.T) {
	for _, s := range slices.Concat(validShapes(), allBroken()) {
		for i, n := range notSymmetries() {
			if m, e := shape.Turn(s, n); e != api.ErrTurn || !isZero(m) {
				t.Errorf("%d maps %v to %v, %v", n, s, m, e)
			}
			if m, e := shape.Place(s, n, farVectors()[i%7]); e != api.ErrTurn || !isZero(m) {
				t.Errorf("%v is placed by %d as %v, %v", s, n, m, e)
			}
		}
	}
	for _, s := range allBroken() {
		for n := range 8 {
			if m, e := shape.Turn(s, n); e != api.ErrShape || !isZero(m) {
				t.Errorf("%d maps %v to %v, %v", n, s, m, e)
			}
			for _, by := range farVectors() {
				if m, e := shape.Place(s, n, by); e != api.ErrShape || !isZero(m) {
					t.Errorf("%v is placed by %d and %v as %v, %v", s, n, by, m, e)
				}
			}
		}
	}
}

// P12.1: a shape is turned, and then moved: a known one, near the limits of which only one order of both stays within them.
func TestKnownPlaces(t *testing.T) {
	s := with(list(6, 4, 0, 4, 0, 0, 6, 0), square(4, 1, 1), list(2, 2, 1, 2, 1, 1, 2, 1))
	for _, c := range []struct {
		turn int
		by   api.Vec
		want api.Shape
		e    api.Errno
	}{
		{0, v(0, 0), with(list(0, 0, 6, 0, 6, 4, 0, 4), square(1, 1, 1), square(4, 1, 1)), api.OK}, {0, v(-3, 5), with(list(-3, 5, 3, 5, 3, 9, -3, 9), square(-2, 6, 1), square(1, 6, 1)), api.OK},
		{1, v(4, 0), with(list(0, 0, 4, 0, 4, 6, 0, 6), square(2, 1, 1), square(2, 4, 1)), api.OK}, {2, v(6, 4), with(list(0, 0, 6, 0, 6, 4, 0, 4), square(1, 2, 1), square(4, 2, 1)), api.OK}, {4, v(6, 1), with(list(0, 1, 6, 1, 6, 5, 0, 5), square(1, 2, 1), square(4, 2, 1)), api.OK}, {7, v(1, 2), with(list(1, 2, 5, 2, 5, 8, 1, 8), square(2, 3, 1), square(2, 6, 1)), api.OK},
		{1, v(2000, 1994), with(list(1996, 1994, 2000, 1994, 2000, 2000, 1996, 2000), square(1998, 1995, 1), square(1998, 1998, 1)), api.OK}, {0, v(2000, 1994), api.Shape{}, api.ErrRange}, {1, v(2001, 0), api.Shape{}, api.ErrRange}, {1, v(0, 1995), api.Shape{}, api.ErrRange}, {1, v(-1997, 0), api.Shape{}, api.ErrRange}, {0, v(-1997, 0), with(list(-1997, 0, -1991, 0, -1991, 4, -1997, 4), square(-1996, 1, 1), square(-1993, 1, 1)), api.OK},
		{0, v(0, 1997), api.Shape{}, api.ErrRange}, {3, v(least, 0), api.Shape{}, api.ErrRange}, {5, v(0, most), api.Shape{}, api.ErrRange}, {8, v(0, 0), api.Shape{}, api.ErrTurn}, {-1, v(most, 0), api.Shape{}, api.ErrTurn},
	} {
		if m, e := shape.Place(s, c.turn, c.by); e != c.e || !isSame(m, c.want) {
			t.Errorf("placed by %d and %v: %v, %v", c.turn, c.by, m, e)
		}
	}
}

// P12.1: placed shapes, with vectors up to the limit in each direction and one beyond it, against the model.
func TestPlace(t *testing.T) {
	for _, s := range validShapes() {
		for n := range 8 {
			want := mappedShape(n, s)
			lo, hi := around(want.Outer)
			left, down := -limit-(lo.X+1), -limit-(lo.Y+1)
			right, up := limit-(hi.X-1), limit-(hi.Y-1)
			for _, by := range []api.Vec{{}, v(left, up), v(right, down), v((left+right)/2, (up+down)/2)} {
				if m, e := shape.Place(s, n, by); e != api.OK || !isSame(m, movedShape(want, by)) {
					t.Errorf("%v is placed by %d and %v as %v, %v", s, n, by, m, e)
				}
			}
			for _, by := range []api.Vec{v(left-1, up), v(right, down-1), v(right+1, down), v(left, up+1), farVectors()[2+(n+len(s.Outer))%5]} {
				if m, e := shape.Place(s, n, by); e != api.ErrRange || !isZero(m) {
					t.Errorf("%v is placed by %d and %v as %v, %v", s, n, by, m, e)
				}
			}
		}
	}
}
