package shape_test

import (
	"cmp"
	"maps"
	"math"
	"math/rand"
	"slices"
	"sync"
	"testing"

	"fretsaw/api"
	"fretsaw/ring"
	"fretsaw/seg"
)

const (
	least  = math.MinInt
	most   = math.MaxInt
	limit  = 2000
	maxDen = 1 << 27
)

// v returns the point with two coordinates.
func v(x, y int) api.Vec { return api.Vec{X: x, Y: y} }

// pt returns the rational point x / den, y / den in lowest terms.
func pt(x, y, den int) api.Point {
	common := den
	for _, n := range []int{max(x, -x), max(y, -y)} {
		for n != 0 {
			common, n = n, common%n
		}
	}
	return api.Point{X: x / common, Y: y / common, Den: den / common}
}

// list returns the ring with the vertices of which the coordinates are given.
func list(l ...int) api.Ring {
	var r api.Ring
	for i := 0; i+1 < len(l); i += 2 {
		r = append(r, v(l[i], l[i+1]))
	}
	return r
}

// square returns the square with a lowest left corner and a side.
func square(x, y, side int) api.Ring {
	return list(x, y, x+side, y, x+side, y+side, x, y+side)
}

// with returns the shape with an outer ring and holes.
func with(outer api.Ring, holes ...api.Ring) api.Shape {
	return api.Shape{Outer: outer, Holes: holes}
}

// plus returns a point that is moved by a vector.
func plus(a, by api.Vec) api.Vec { return v(a.X+by.X, a.Y+by.Y) }

// moved returns a ring that is moved by a vector.
func moved(r api.Ring, by api.Vec) api.Ring {
	l := slices.Clone(r)
	for i := range l {
		l[i] = plus(l[i], by)
	}
	return l
}

// movedShape returns a shape that is moved by a vector.
func movedShape(s api.Shape, by api.Vec) api.Shape {
	m := with(moved(s.Outer, by))
	for _, hole := range s.Holes {
		m.Holes = append(m.Holes, moved(hole, by))
	}
	return m
}

// backwards returns the vertices in the opposite order.
func backwards(r api.Ring) api.Ring {
	l := slices.Clone(r)
	slices.Reverse(l)
	return l
}

// turned returns a ring that begins with the vertex with an index.
func turned(r api.Ring, first int) api.Ring { return slices.Concat(r[first:], r[:first]) }

// copyOf returns a shape with the same rings, in memory of its own.
func copyOf(s api.Shape) api.Shape { return movedShape(s, api.Vec{}) }

// isSame reports whether two shapes have the same vertices in the same order, whether their lists are nil or empty.
func isSame(a, b api.Shape) bool {
	return slices.Equal(a.Outer, b.Outer) && slices.EqualFunc(a.Holes, b.Holes, func(r, q api.Ring) bool { return slices.Equal(r, q) })
}

// isZero reports whether a shape has neither vertices nor holes.
func isZero(s api.Shape) bool { return len(s.Outer) == 0 && len(s.Holes) == 0 }

// ringsIn returns the outer ring and the holes.
func ringsIn(s api.Shape) []api.Ring { return slices.Concat([]api.Ring{s.Outer}, s.Holes) }

// around returns the corners of the box of a ring, which is made larger by one on each side.
func around(r api.Ring) (api.Vec, api.Vec) {
	lo, hi := r[0], r[0]
	for _, a := range r {
		lo, hi = v(min(lo.X, a.X), min(lo.Y, a.Y)), v(max(hi.X, a.X), max(hi.Y, a.Y))
	}
	return plus(lo, v(-1, -1)), plus(hi, v(1, 1))
}

// grid returns all points with coordinates from lo to hi.
func grid(lo, hi api.Vec) []api.Vec {
	var l []api.Vec
	for y := lo.Y; y <= hi.Y; y++ {
		for x := lo.X; x <= hi.X; x++ {
			l = append(l, v(x, y))
		}
	}
	return l
}

// comb returns a ring of n vertices, a base and teeth on it, with a lowest left corner and a scale.
func comb(x, y, n, scale int) api.Ring {
	r := list(0, 0, n, 0)
	for i := range n - 2 {
		r = append(r, v(n-1-i, 2+3*(i%2)))
	}
	for i, a := range r {
		r[i] = v(x+scale*a.X, y+scale*a.Y)
	}
	return r
}

// combs returns combs of the given numbers of vertices, beside each other, which lie inside of base(39) and base(40).
func combs(sizes ...int) []api.Ring {
	var l []api.Ring
	x := -800
	for _, n := range sizes {
		l = append(l, comb(x, -990, n, 10))
		x += 10*n + 10
	}
	return l
}

// base returns a large comb of n vertices.
func base(n int) api.Ring { return comb(-1000, -1000, n, 50) }

// squares returns n squares of the side 1, beside each other, from (1, 1) on.
func squares(n int) []api.Ring {
	var l []api.Ring
	for i := range n {
		l = append(l, square(1+2*i, 1, 1))
	}
	return l
}

// The rings of which shapes are made: one with a bay from the left, one that goes along two sides of a square, and ones into which a spike, a bump, a notch and a slot lead.
func bay() api.Ring    { return list(0, 0, 5, 0, 5, 5, 0, 5, 0, 4, 4, 4, 4, 1, 0, 1) }
func angle() api.Ring  { return list(0, 0, 4, 0, 4, 1, 1, 1, 1, 4, 0, 4) }
func spiked() api.Ring { return list(0, 0, 2, 0, 3, 3, 4, 0, 6, 0, 6, 6, 0, 6) }
func bumped() api.Ring { return list(0, 0, 2, 0, 2, 3, 4, 3, 4, 0, 6, 0, 6, 6, 0, 6) }
func notch() api.Ring  { return list(0, 0, 5, 0, 5, 5, 3, 2, 0, 5) }
func slot() api.Ring   { return list(0, 0, 5, 0, 5, 5, 3, 5, 3, 2, 2, 2, 2, 5, 0, 5) }
func spiral() api.Ring {
	return list(0, 0, 10, 0, 10, 10, 0, 10, 0, 3, 7, 3, 7, 7, 3, 7, 3, 5, 5, 5, 5, 6, 6, 6, 6, 4, 2, 4, 2, 8, 8, 8, 8, 2, 0, 2)
}

// knownShapes has valid shapes of all kinds.
func knownShapes() []api.Shape {
	whole := square(-limit, -limit, 2*limit)
	return []api.Shape{
		with(square(0, 0, 6)), with(list(0, 0, 3, 0, 0, 3)), with(list(1, 0, 1, 1, 0, 1)), with(list(4, 4, 2, 1, 0, 0, 4, 0)), with(comb(0, 0, 40, 1)), with(bay()), with(spiked()), with(spiral()), with(whole), with(list(-2000, -2000, 2000, 1999, 2000, 2000)), {Outer: square(-3, 2, 4), Holes: []api.Ring{}},
		with(square(0, 0, 6), square(2, 2, 2)), with(square(0, 0, 6), square(1, 1, 4)), with(square(0, 0, 3), square(1, 1, 1)), with(list(6, 6, 0, 6, 0, 0, 6, 0), list(4, 4, 2, 4, 2, 2, 4, 2)), with(list(0, 0, 9, 0, 0, 9), list(1, 1, 4, 1, 1, 4)), with(list(0, 0, 9, 0, 0, 9), list(1, 1, 6, 1, 1, 7)),
		with(spiked(), list(1, 4, 5, 4, 3, 5)), with(spiked(), list(1, 1, 2, 1, 2, 4, 4, 4, 4, 1, 5, 1, 5, 5, 1, 5)), with(bumped(), list(5, 1, 5, 5, 1, 5, 1, 4, 4, 4)), with(spiral(), list(9, 1, 9, 9, 8, 1)), with(square(-1, -1, 8), spiked()), with(square(-1, -1, 12), spiral()),
		with(whole, square(1-limit, 1-limit, 2*limit-2)), with(whole, list(-1999, -1999, 1999, 1998, 1999, 1999)), with(whole, square(1998, 1998, 1), square(-1999, -1999, 1)), with(square(1990, -2000, 10), square(1991, -1999, 1), square(1998, -1992, 1)),
		with(square(0, 0, 6), square(1, 1, 1), square(3, 3, 2)), with(square(0, 0, 6), square(3, 3, 2), square(1, 1, 1)), with(square(0, 0, 6), list(1, 1, 4, 1, 1, 4), list(5, 5, 2, 5, 5, 2)), with(square(-2, -1, 8), square(1, 2, 1), bay()), with(square(-2, -1, 8), bay(), list(-1, 2, 3, 2, 3, 3, -1, 3)), with(square(-1, -1, 8), angle(), square(2, 2, 3)), with(square(-1, -1, 8), square(2, 2, 3), angle()),
		with(square(0, 0, 14), squares(6)...), with(square(0, 0, 14), slices.Concat(squares(5), []api.Ring{square(2, 4, 9)})...), with(list(0, 0, 20, 0, 20, 3, 0, 3), squares(6)...),
		with(base(40), combs(40)...), with(base(40), combs(7, 6, 7, 7, 6, 7)...), with(base(39), combs(21, 20)...), with(square(-1000, -1000, 2000), combs(40, 36)...), with(base(40), combs(3, 3, 4, 5, 6, 7)...),
	}
}

// brokenShapes has known shapes that are not valid, by what is wrong with them.
func brokenShapes() map[string][]api.Shape {
	outer := square(0, 0, 6)
	shapes := map[string][]api.Shape{
		"too many holes":    {with(square(0, 0, 20), squares(7)...), with(square(0, 0, 20), squares(8)...), with(square(-limit, -limit, 2*limit), squares(900)...), with(square(0, 0, 20), make([]api.Ring, 1000)...)},
		"too many vertices": {with(base(40), combs(20, 21)...), with(base(40), combs(7, 7, 7, 7, 7, 6)...), with(base(39), combs(21, 21)...), with(base(40), combs(40, 3)...), with(square(-1000, -1000, 2000), combs(40, 37)...), with(base(40), combs(40, 40, 40)...)},
		"at the outer ring": {
			with(outer, square(0, 1, 1)), with(outer, square(1, 0, 2)), with(outer, square(4, 4, 2)), with(outer, list(0, 0, 2, 1, 1, 2)), with(outer, list(2, 1, 1, 2, 0, 0)), with(outer, list(6, 6, 4, 5, 5, 4)), with(outer, list(3, 0, 4, 2, 2, 2)), with(outer, list(4, 2, 2, 2, 3, 0)), with(outer, list(2, 2, 3, 0, 4, 2)),
			with(outer, list(6, 3, 4, 4, 4, 2)), with(outer, list(4, 4, 4, 2, 6, 3)), with(outer, list(3, 6, 2, 4, 4, 4)), with(outer, list(4, 4, 3, 6, 2, 4)), with(outer, list(0, 3, 2, 2, 2, 4)), with(outer, list(2, 4, 0, 3, 2, 2)), with(spiked(), list(1, 5, 3, 3, 5, 5)), with(spiked(), list(3, 3, 5, 5, 1, 5)), with(outer, square(3, 3, 1), list(3, 0, 4, 2, 2, 2)),
			with(outer, outer), with(outer, turned(outer, 2)), with(spiked(), turned(spiked(), 5)), with(outer, square(2, 2, 1), outer), with(outer, list(0, 0, 6, 0, 6, 6)),
		},
		"outside": {
			with(outer, square(7, 7, 1)), with(outer, square(-3, -3, 2)), with(outer, square(6, 6, 2)), with(outer, square(7, 2, 1)), with(outer, square(2, -2, 1)), with(outer, square(6, 2, 2)), with(outer, square(-1, -1, 8)), with(square(2, 2, 2), outer), with(outer, square(4, 4, 4)), with(outer, list(-1, 2, 7, 2, 7, 3, -1, 3)), with(outer, list(2, 2, 7, 3, 2, 4)), with(outer, list(7, 3, 2, 4, 2, 2)),
			with(bay(), square(1, 2, 1)), with(bay(), square(1, 1, 1)), with(bumped(), square(3, 1, 1)), with(spiked(), list(2, 1, 4, 1, 3, 2)), with(outer, square(1, 1, 1), square(7, 7, 1)), with(outer, square(7, 7, 1), square(1, 1, 1)), with(square(-limit, -limit, limit), square(1, 1, limit-1)),
		},
		"edges at the outer ring": {
			with(spiked(), list(1, 3, 5, 3, 3, 5)), with(spiked(), list(5, 3, 3, 5, 1, 3)), with(bumped(), list(1, 3, 5, 3, 5, 5, 1, 5)), with(bumped(), list(1, 3, 5, 3, 3, 4)), with(bumped(), list(5, 2, 3, 5, 1, 4)), with(spiked(), list(5, 3, 5, 5, 1, 5, 1, 3)),
			with(spiked(), list(1, 2, 5, 2, 3, 5)), with(spiked(), list(1, 1, 5, 1, 3, 5)), with(spiked(), list(1, 1, 5, 1, 5, 5, 1, 5)), with(spiked(), list(5, 5, 1, 5, 1, 1, 5, 2)), with(bumped(), list(1, 1, 5, 1, 5, 5, 1, 5)), with(bumped(), list(1, 2, 5, 2, 3, 5)), with(spiral(), list(1, 1, 9, 1, 9, 9)), with(spiral(), list(4, 9, 9, 4, 9, 9)), with(spiked(), list(1, 4, 2, 4, 2, 5), list(1, 2, 5, 1, 3, 4)),
		},
		"holes that meet": {
			with(outer, square(1, 1, 1), square(2, 2, 2)), with(outer, square(2, 2, 2), square(1, 1, 1)), with(outer, square(1, 1, 2), list(3, 2, 5, 1, 5, 3)), with(outer, list(3, 2, 5, 1, 5, 3), square(1, 1, 2)), with(outer, square(1, 1, 2), square(3, 1, 2)), with(outer, square(1, 1, 2), square(3, 2, 2)), with(outer, square(1, 3, 2), square(1, 1, 2)), with(outer, square(1, 1, 2), square(4, 4, 1), square(3, 1, 2)),
			with(outer, square(1, 1, 3), square(2, 2, 3)), with(outer, list(1, 2, 5, 2, 5, 3, 1, 3), list(2, 1, 3, 1, 3, 5, 2, 5)), with(outer, list(1, 1, 5, 1, 3, 5), list(5, 4, 1, 4, 3, 2)), with(outer, list(1, 1, 5, 1, 1, 5), list(5, 5, 1, 5, 5, 1)), with(square(-1, -1, 8), bay(), list(1, 2, 6, 2, 6, 3, 1, 3)), with(square(-1, -1, 8), angle(), square(1, 1, 3)), with(square(-1, -1, 8), spiked(), list(1, 2, 5, 2, 3, 5)),
		},
		"holes in holes": {
			with(square(0, 0, 9), square(1, 1, 6), square(2, 2, 2)), with(square(0, 0, 9), square(2, 2, 2), square(1, 1, 6)), with(square(-1, -1, 8), spiked(), list(1, 4, 5, 4, 3, 5)), with(square(-1, -1, 8), list(1, 4, 5, 4, 3, 5), spiked()), with(square(-1, -1, 12), spiral(), list(9, 1, 9, 9, 8, 1)),
			with(outer, square(2, 2, 2), square(2, 2, 2)), with(outer, square(2, 2, 2), turned(square(2, 2, 2), 3)), with(outer, square(1, 1, 1), square(4, 4, 1), square(1, 1, 1)), with(square(0, 0, 9), square(3, 3, 1), square(7, 7, 1), square(1, 1, 5)), with(square(0, 0, 9), square(1, 1, 5), square(7, 7, 1), square(3, 3, 1)),
		},
	}
	for _, r := range notRings() {
		shapes["outer rings"] = append(shapes["outer rings"], with(r), with(r, square(2, 2, 2)), with(r, backwards(square(2, 2, 2))), with(r, r))
		shapes["hole rings"] = append(shapes["hole rings"], with(outer, r), with(outer, square(1, 1, 1), r), with(outer, r, square(1, 1, 1)), with(square(-limit, -limit, 2*limit), r))
	}
	return shapes
}

// notRings has lists that are not valid rings, of which many lie inside of the square from (0, 0) to (6, 6).
func notRings() []api.Ring {
	l := []api.Ring{
		nil, {}, list(3, 4), list(2, 2, 4, 4), list(2, 2, 2, 4, 4, 2), list(2, 2, 2, 4, 4, 4, 4, 2), list(2, 2, 3, 3, 4, 4), list(2, 2, 3, 2, 4, 2, 4, 4), list(2, 2, 4, 2, 4, 2, 2, 4), list(2, 2, 4, 4, 4, 2, 2, 4), list(1, 1, 5, 1, 5, 3, 3, 1, 1, 3), list(1, 1, 4, 1, 4, 4, 1, 4, 1, 1), list(3, 3, 3, 3, 3, 3), comb(1, 1, 41, 1), base(41), comb(-1999, -1999, 200, 1),
		backwards(square(0, 0, 6)), backwards(spiked()), backwards(base(40)), list(0, 0, limit+1, 0, 0, 3), list(0, 0, 3, 0, 0, limit+1), list(-limit-1, 0, 0, -3, 0, 0), square(-limit, -limit, 2*limit+1), square(-limit-1, -limit-1, 2*limit+1), list(2, 2, most, 2, 2, most), list(least, 2, 2, least, 2, 2), list(least, least, most, least, most, most, least, most), list(least, 2, 2, 2, 2, 4),
	}
	for _, n := range []int{1 << 31, 1 << 32, 1 << 62, -1 << 32, -1 << 62} {
		l = append(l, list(0, 0, n, 0, n, n, 0, n), list(n, n, n+1, n, n, n+1), list(2, 2, n+4, 2, 2, 4))
	}
	return l
}

// allBroken has all of these shapes.
func allBroken() []api.Shape {
	var l []api.Shape
	shapes := brokenShapes()
	for _, name := range slices.Sorted(maps.Keys(shapes)) {
		l = append(l, shapes[name]...)
	}
	return l
}

// triangles has all lists of three different points of the grid from (0, 0) to (n, n), which begin with the least one of them.
func triangles(n int) []api.Ring {
	var l []api.Ring
	points := grid(v(0, 0), v(n, n))
	for i, a := range points {
		for _, b := range points[i+1:] {
			for _, c := range points[i+1:] {
				if b != c {
					l = append(l, api.Ring{a, b, c})
				}
			}
		}
	}
	return l
}

// smallShapes has shapes with all of these lists as holes: alone in an outer ring, and beside another hole, ahead of it or behind it. Most are not valid.
func smallShapes() []api.Shape {
	var l []api.Shape
	holes := triangles(5)
	for _, r := range []api.Ring{square(0, 0, 5), notch(), slot(), spiked(), bumped(), list(0, 0, 6, 0, 0, 6)} {
		for _, hole := range holes {
			l = append(l, with(r, hole))
		}
	}
	for i, r := range []api.Ring{bay(), angle(), moved(spiked(), v(-1, 0)), list(1, 1, 4, 2, 2, 4), square(2, 2, 1)} {
		for j, hole := range holes {
			if (i+j)%2 == 0 {
				l = append(l, with(square(-2, -1, 8), r, hole))
			} else {
				l = append(l, with(square(-2, -1, 8), hole, r))
			}
		}
	}
	return l
}

// isLower reports whether a direction leads down, or to the left.
func isLower(a api.Vec) int {
	if a.Y > 0 || a.Y == 0 && a.X > 0 {
		return 0
	}
	return 1
}

// ringAround returns a ring with up to n vertices, in the order of their directions from a point, or nothing.
func ringAround(source *rand.Rand, at api.Vec, n, size int) api.Ring {
	var l []api.Vec
	for range n {
		l = append(l, v(source.Intn(2*size+1)-size, source.Intn(2*size+1)-size))
	}
	slices.SortFunc(l, func(a, b api.Vec) int { return cmp.Or(isLower(a)-isLower(b), a.Y*b.X-a.X*b.Y) })
	r, e := ring.Clean(moved(l, at))
	if e != api.OK {
		return nil
	}
	return turned(r, source.Intn(len(r)))
}

// randomShape returns a shape with up to six holes.
func randomShape(source *rand.Rand, size, n int) api.Shape {
	at := v(source.Intn(2*(limit-size)+1)-limit+size, source.Intn(2*(limit-size)+1)-limit+size)
	s := with(ringAround(source, at, n, size))
	for range 2 * n {
		center := plus(at, v(source.Intn(2*size+1)-size, source.Intn(2*size+1)-size))
		hole := ringAround(source, center, 3+source.Intn(1+n/3), 1+source.Intn(1+size/3))
		if longer := with(s.Outer, append(slices.Clone(s.Holes), hole)...); isShape(longer) {
			s = longer
		}
	}
	return s
}

// randomShapes has valid shapes of all sizes, the same ones in each run.
func randomShapes() []api.Shape {
	source := rand.New(rand.NewSource(12))
	var l []api.Shape
	for i := range 400 {
		s := randomShape(source, []int{5, 12, 150, limit}[i%4], 5+source.Intn([]int{8, 16, 40, 60}[i%4]))
		if isShape(s) {
			l = append(l, s)
		}
	}
	return l
}

// changedShapes has random shapes of which a ring is changed: many of them are not valid.
func changedShapes() []api.Shape {
	source := rand.New(rand.NewSource(122))
	var l []api.Shape
	for i, s := range slices.Repeat(randomShapes(), 8) {
		s = copyOf(s)
		rings := ringsIn(s)
		r, q := rings[source.Intn(len(rings))], rings[source.Intn(len(rings))]
		j, k := source.Intn(len(r)), source.Intn(len(q))
		switch i % 6 {
		case 0:
			r[j] = plus(r[j], v(source.Intn(5)-2, source.Intn(5)-2))
		case 1:
			r[j] = q[k]
		case 2:
			r[j] = v((q[k].X+q[(k+1)%len(q)].X)/2, (q[k].Y+q[(k+1)%len(q)].Y)/2)
		case 3:
			copy(r, moved(r, v(source.Intn(7)-3, source.Intn(7)-3)))
		case 4:
			s.Holes = append(s.Holes, moved(q, v(source.Intn(31)-15, source.Intn(31)-15)))
		case 5:
			slices.Reverse(r)
		}
		l = append(l, s)
	}
	return l
}

// validShapes has valid shapes: known ones, some small ones, and random ones. They are made only once, as this takes a while.
func validShapes() []api.Shape { return slices.Clone(madeShapes()) }

var madeShapes = sync.OnceValue(func() []api.Shape {
	var few []api.Shape
	valid := 0
	for _, s := range smallShapes() {
		if !isShape(s) {
			continue
		}
		if valid++; valid%101 == 0 {
			few = append(few, s)
		}
	}
	return slices.Concat(knownShapes(), few, randomShapes())
})

// narrow has the valid shapes with a box of at most 26 by 26.
func narrow() []api.Shape {
	return slices.DeleteFunc(validShapes(), func(s api.Shape) bool {
		lo, hi := around(s.Outer)
		return max(hi.X-lo.X, hi.Y-lo.Y) > 28
	})
}

// trapezoids returns the doubled area between a ring and the axis, where what is below the edges to the left counts.
func trapezoids(r api.Ring) int {
	area := 0
	for i, a := range r {
		b := r[(i+1)%len(r)]
		area += (a.X - b.X) * (a.Y + b.Y)
	}
	return area
}

// placeIn returns where a valid rational point lies with regard to valid rings: on an edge of one of them, or above an odd or an even number of their edges.
func placeIn(p api.Point, rings ...api.Ring) int {
	below := 0
	for _, r := range rings {
		for i, a := range r {
			b := r[(i+1)%len(r)]
			if a.X > b.X {
				a, b = b, a
			}
			x, y, width := p.X-a.X*p.Den, p.Y-a.Y*p.Den, b.X-a.X
			if x < 0 || x > width*p.Den {
				continue
			}
			height := y*width - x*(b.Y-a.Y)
			if height == 0 && min(a.Y, b.Y)*p.Den <= p.Y && p.Y <= max(a.Y, b.Y)*p.Den {
				return ring.Boundary
			}
			if height > 0 && x < width*p.Den {
				below++
			}
		}
	}
	if below%2 == 1 {
		return ring.Inside
	}
	return ring.Outside
}

// placeOf returns where a valid rational point lies with regard to a valid shape: inside, it is above an odd number of the edges of all rings.
func placeOf(s api.Shape, p api.Point) int { return placeIn(p, ringsIn(s)...) }

// doMeet reports whether edges of two rings have a point in common.
func doMeet(r, q api.Ring) bool {
	for i, a := range r {
		for j, b := range q {
			if seg.Meet(api.Seg{A: a, B: r[(i+1)%len(r)]}, api.Seg{A: b, B: q[(j+1)%len(q)]}) != seg.None {
				return true
			}
		}
	}
	return false
}

// areAt reports whether all vertices of a ring lie at a place of another one.
func areAt(place int, r, q api.Ring) bool {
	return !slices.ContainsFunc(r, func(a api.Vec) bool { return placeIn(pt(a.X, a.Y, 1), q) != place })
}

// isShape reports whether a shape is valid, by the chapter, vertex by vertex and edge by edge.
func isShape(s api.Shape) bool {
	corners := 0
	for _, r := range ringsIn(s) {
		corners += len(r)
		if !ring.Valid(r) {
			return false
		}
	}
	if len(s.Holes) > 6 || corners > 80 {
		return false
	}
	for i, hole := range s.Holes {
		if !areAt(ring.Inside, hole, s.Outer) || doMeet(hole, s.Outer) {
			return false
		}
		for _, other := range s.Holes[:i] {
			if !areAt(ring.Outside, hole, other) || !areAt(ring.Outside, other, hole) || doMeet(hole, other) {
				return false
			}
		}
	}
	return true
}

// image returns where a symmetry maps a vector, step by step.
func image(t int, a api.Vec) api.Vec {
	if t >= 4 {
		a = v(-a.X, a.Y)
		t -= 4
	}
	for range t {
		a = v(-a.Y, a.X)
	}
	return a
}

// compare compares two vectors by Y, and then by X.
func compare(a, b api.Vec) int { return cmp.Or(cmp.Compare(a.Y, b.Y), cmp.Compare(a.X, b.X)) }

// mappedRing returns a ring that is mapped by the definition: it begins with its least vertex, and runs counterclockwise.
func mappedRing(t int, r api.Ring) api.Ring {
	var l api.Ring
	for _, a := range r {
		l = append(l, image(t, a))
	}
	if t >= 4 {
		slices.Reverse(l)
	}
	return turned(l, slices.Index(l, slices.MinFunc(l, compare)))
}

// mappedShape returns a shape that is mapped by the definition: its rings are, and its holes are in the order of their least vertices.
func mappedShape(t int, s api.Shape) api.Shape {
	m := with(mappedRing(t, s.Outer))
	for _, hole := range s.Holes {
		mapped := mappedRing(t, hole)
		at := 0
		for at < len(m.Holes) && compare(m.Holes[at][0], mapped[0]) < 0 {
			at++
		}
		m.Holes = slices.Insert(m.Holes, at, mapped)
	}
	return m
}

// notSymmetries has numbers that are none, also such with the same remainders as symmetries.
func notSymmetries() []int {
	return []int{-1, 8, -4, -7, -8, 9, 12, 16, 1 << 32, 1<<32 + 5, -1 << 32, least, least + 1, most, most - 7}
}

// halves has points of and around a shape, twice as large: its vertices, what is near them, and what is between some of them.
func halves(s api.Shape) []api.Vec {
	l := []api.Vec{v(4*limit, 0), v(0, -4*limit-2), v(-2*limit, 2*limit)}
	for i, r := range ringsIn(s) {
		for j, a := range r {
			b, c := r[(j+1)%len(r)], s.Outer[(i+j)%len(s.Outer)]
			l = append(l, v(2*a.X, 2*a.Y), v(2*a.X+1, 2*a.Y), v(2*a.X, 2*a.Y-1), v(2*a.X-2, 2*a.Y+2), v(a.X+b.X, a.Y+b.Y), v(a.X+c.X, a.Y+c.Y))
		}
	}
	return l
}

// fewHalves has at most n of these points, spread over all of them; the first one depends on a number.
func fewHalves(s api.Shape, number, n int) []api.Vec {
	var few []api.Vec
	l := halves(s)
	step := 1 + len(l)/n
	for i := number % step; i < len(l); i += step {
		few = append(few, l[i])
	}
	return few
}

// half returns the point with half of the coordinates of a vector.
func half(a api.Vec) api.Point { return pt(a.X, a.Y, 2) }

// The models and the samples are what they are called.
func TestSamples(t *testing.T) {
	for _, s := range validShapes() {
		if !isShape(s) {
			t.Errorf("%v is not valid for the model", s)
		}
	}
	for name, l := range brokenShapes() {
		for _, s := range l {
			if isShape(s) {
				t.Errorf("%s: %v is valid for the model", name, s)
			}
		}
	}
	holes, corners := map[int]int{}, map[int]int{}
	far := 0
	for _, s := range randomShapes() {
		n := 0
		for _, r := range ringsIn(s) {
			n += len(r)
		}
		holes[min(len(s.Holes), 6)]++
		corners[n/20]++
		if trapezoids(s.Outer) > 1000000 {
			far++
		}
	}
	if len(holes) != 7 || slices.Min(slices.Collect(maps.Values(holes))) < 5 || min(corners[0], corners[1], corners[2], corners[3]) < 10 || far < 50 {
		t.Errorf("only these numbers of holes and of vertices of random shapes: %v, %v, %d large ones", holes, corners, far)
	}
	if len(narrow()) < 100 || len(validShapes()) < 300 || len(triangles(5)) != 36*35*34/3 {
		t.Errorf("only %d narrow shapes, %d shapes, %d triangles", len(narrow()), len(validShapes()), len(triangles(5)))
	}
	s := with(square(0, 0, 6), square(2, 2, 2))
	for want, l := range [][]api.Point{
		ring.Outside:  {pt(3, 3, 1), pt(5, 7, 2), pt(13, 1, 2), pt(-1, 4, 2), pt(3, 7, 1), pt(2, -1, 1)},
		ring.Boundary: {pt(2, 3, 1), pt(5, 4, 2), pt(4, 4, 1), pt(0, 1, 2), pt(12, 5, 2), pt(6, 0, 1)},
		ring.Inside:   {pt(1, 1, 1), pt(3, 3, 2), pt(3, 9, 2), pt(9, 2, 2), pt(2, 1, 1), pt(5, 4, 1)},
	} {
		for _, p := range l {
			if place := placeOf(s, p); place != want {
				t.Errorf("%v is at %d for the model", p, place)
			}
		}
	}
	if m := mappedShape(5, with(square(0, 0, 6), square(1, 1, 1), square(4, 1, 1))); !isSame(m, with(square(-6, -6, 6), square(-2, -5, 1), square(-2, -2, 1))) {
		t.Errorf("the mapped shape is %v", m)
	}
}
