package ring_test

import (
	"math"
	"math/big"
	"math/rand"
	"slices"
	"testing"

	"fretsaw/api"
	"fretsaw/ring"
	"fretsaw/seg"
)

const (
	least  = math.MinInt
	most   = math.MaxInt
	limit  = 2000
	maxDen = 1 << 27
)

// v returns the point with two coordinates.
func v(x, y int) api.Vec { return api.Vec{X: x, Y: y} }

// pt returns the rational point x / den, y / den in lowest terms.
func pt(x, y, den int) api.Point {
	common := den
	for _, n := range []int{max(x, -x), max(y, -y)} {
		for n != 0 {
			common, n = n, common%n
		}
	}
	return api.Point{X: x / common, Y: y / common, Den: den / common}
}

// list returns the ring with the vertices of which the coordinates are given.
func list(l ...int) api.Ring {
	var r api.Ring
	for i := 0; i+1 < len(l); i += 2 {
		r = append(r, v(l[i], l[i+1]))
	}
	return r
}

// plus returns a point that is moved by a vector.
func plus(a, by api.Vec) api.Vec { return v(a.X+by.X, a.Y+by.Y) }

// moved returns a ring that is moved by a vector.
func moved(r api.Ring, by api.Vec) api.Ring {
	l := slices.Clone(r)
	for i := range l {
		l[i] = plus(l[i], by)
	}
	return l
}

// next returns the vertex that follows the one with an index.
func next(r api.Ring, i int) api.Vec { return r[(i+1)%len(r)] }

// turned returns a ring that begins with the vertex with an index.
func turned(r api.Ring, first int) api.Ring { return slices.Concat(r[first:], r[:first]) }

// backwards returns the vertices in the opposite order.
func backwards(r api.Ring) api.Ring {
	var l api.Ring
	for i := len(r) - 1; i >= 0; i-- {
		l = append(l, r[i])
	}
	return l
}

// grid returns all points with coordinates from lo to hi.
func grid(lo, hi api.Vec) []api.Vec {
	var l []api.Vec
	for y := lo.Y; y <= hi.Y; y++ {
		for x := lo.X; x <= hi.X; x++ {
			l = append(l, v(x, y))
		}
	}
	return l
}

// around returns the corners of the box of a ring, which is made larger by one on each side.
func around(r api.Ring) (api.Vec, api.Vec) {
	lo, hi := r[0], r[0]
	for _, a := range r {
		lo, hi = v(min(lo.X, a.X), min(lo.Y, a.Y)), v(max(hi.X, a.X), max(hi.Y, a.Y))
	}
	return plus(lo, v(-1, -1)), plus(hi, v(1, 1))
}

// comb returns a ring of n vertices: a base, and teeth on it.
func comb(n int) api.Ring {
	r := list(0, 0, n, 0)
	for i := range n - 2 {
		r = append(r, v(n-1-i, 2+3*(i%2)))
	}
	return r
}

// bowl returns a convex ring of n vertices on a parabola.
func bowl(n int) api.Ring {
	var r api.Ring
	for i := range n {
		r = append(r, v(i, i*i))
	}
	return r
}

// convexRings has known rings that are convex.
func convexRings() []api.Ring {
	return []api.Ring{
		list(0, 0, 3, 0, 0, 3), list(0, 3, 0, 0, 3, 0), list(-1, -1, 1, -1, 0, 1), list(0, 0, 4, 0, 4, 4, 0, 4), list(0, -2, 2, 0, 0, 2, -2, 0), list(1, 0, 3, 0, 4, 2, 3, 4, 1, 4, 0, 2), list(5, -1, 7, 3, 0, 1),
		list(-2000, -2000, 2000, 1999, 2000, 2000), list(1999, 2000, 2000, 1999, 2000, 2000), list(-2000, -2000, 2000, -2000, 2000, 2000, -2000, 2000), list(-2000, 0, 0, -2000, 2000, 0, 0, 2000), list(-2000, 2000, -2000, -2000, -1999, -2000),
		bowl(5), bowl(39), bowl(40),
	}
}

// otherRings has known rings that are valid, but not convex.
func otherRings() []api.Ring {
	return []api.Ring{
		list(0, 0, 4, 0, 4, 4, 2, 1), list(0, 0, 3, 0, 3, 1, 1, 1, 1, 3, 0, 3), list(0, 0, 5, 0, 5, 4, 4, 4, 4, 1, 1, 1, 1, 4, 0, 4), list(4, 0, 5, 3, 4, 2, 3, 3), list(0, 0, 6, 0, 6, 6, 0, 6, 0, 5, 5, 5, 5, 1, 0, 1), list(0, 0, 8, 0, 8, 4, 6, 4, 4, 2, 2, 4, 0, 4),
		list(0, 0, 10, 0, 10, 10, 0, 10, 0, 3, 7, 3, 7, 7, 3, 7, 3, 5, 5, 5, 5, 6, 6, 6, 6, 4, 2, 4, 2, 8, 8, 8, 8, 2, 0, 2), list(0, 0, 6, -3, 3, 0, 6, 3), list(-3, 6, 0, 0, 3, 6, 0, 3), list(0, 3, 2, 2, 3, 0, 4, 2, 6, 3, 4, 4, 3, 6, 2, 4),
		list(-2000, -2000, 2000, -2000, 2000, 2000, 1999, -1999), list(-2000, -2000, 2000, -2000, -1999, -1999, -2000, 2000), list(-2000, -2000, 0, -1, 2000, -2000, 1, 0, 2000, 2000, 0, 1, -2000, 2000, -1, 0),
		comb(6), comb(39), comb(40),
	}
}

// brokenRings has known lists that are not valid rings, by what is wrong with them.
func brokenRings() map[string][]api.Ring {
	return map[string][]api.Ring{
		"too few":   {nil, {}, list(0, 0), list(2000, -2000), list(0, 0, 4, 0), list(1, 1, 1, 1)},
		"too many":  {bowl(41), comb(41), comb(43), comb(1000)},
		"clockwise": {list(0, 0, 0, 3, 3, 0), list(0, 0, 0, 4, 4, 4, 4, 0), list(2, 1, 4, 4, 4, 0, 0, 0), backwards(comb(40)), backwards(bowl(40)), list(2000, 2000, 2000, -2000, -2000, -2000, -2000, 2000)},
		"collinear": {
			list(0, 0, 2, 0, 4, 0, 4, 4), list(2, 0, 4, 0, 4, 4, 0, 0), list(4, 0, 4, 4, 0, 0, 2, 0), list(0, 0, 4, 0, 2, 0, 2, 4), list(4, 0, 2, 0, 2, 4, 0, 0), list(2, 0, 2, 4, 0, 0, 4, 0), list(0, 0, 1, 1, 2, 2), list(0, 0, 4, 2, 2, 1), list(0, 0, 4, 0, 4, 4, 4, 0),
			list(-2000, -2000, 0, 0, 2000, 2000, -2000, 2000), list(0, 0, 4, 0, 4, 4, 0, 4, 0, 2), list(0, 2, 0, 0, 4, 0, 4, 4, 0, 4),
		},
		"repeated": {
			list(0, 0, 0, 0, 4, 0, 0, 4), list(0, 0, 4, 0, 0, 4, 0, 0), list(0, 0, 4, 0, 4, 0, 0, 4), list(3, 3, 3, 3, 3, 3), list(0, 0, 4, 0, 0, 4, 0, 0, 4, 0, 0, 4), list(0, 0, 4, 0, 2, 2, 4, 4, 0, 4, 2, 2), list(0, 0, 4, 0, 4, 4, 2, 2, 4, 2, 4, 1, 2, 2, 0, 4), list(2, 2, 4, 0, 4, 4, 2, 2, 0, 4, 0, 0),
		},
		"touching":    {list(0, 0, 4, 0, 4, 2, 2, 0, 0, 2), list(0, 0, 4, 0, 4, 4, 0, 4, 4, 2, 0, 2), list(0, 0, 6, 0, 6, 6, 3, 0, 0, 6), list(2, 0, 4, -1, 4, 5, 0, 5, 0, -1, 2, 0, 2, 2), list(-2000, -2000, 2000, 2000, 2000, 1999, 1999, 1999, -2000, 2000)},
		"overlapping": {list(0, 0, 6, 0, 6, 2, 4, 0, 2, 0, 0, 2), list(0, 0, 6, 0, 6, 6, 5, 6, 5, 0, 1, 0, 1, 6, 0, 6), list(0, 0, 6, 0, 6, 4, 3, 4, 3, 2, 6, 2, 6, 6, 0, 6), list(0, 0, 4, 0, 4, 4, 2, 4, 2, 2, 1, 2, 1, 4, 4, 4, 4, 5, 0, 5)},
		"crossing":    {list(0, 0, 4, 4, 4, 0, 0, 4), list(0, 0, 6, 0, 6, 6, 2, -1), list(0, 4, -2, -3, 4, 1, -4, 1, 2, -3), list(0, 0, 9, 0, 0, 9, 1, 1, 9, 1, 1, 9), list(0, 0, 6, 0, 6, 6, 5, 6, 5, -1, 1, -1, 1, 6, 0, 6), list(-2000, -2000, 2000, 2000, -2000, 1999, -1999, 2000)},
		"outside":     outsideRings(),
	}
}

// outsideRings has lists with coordinates beyond the limit, also with products that wrap around.
func outsideRings() []api.Ring {
	var l []api.Ring
	for _, n := range []int{limit + 1, 4000, 4001, 1 << 31, 1 << 32, 1 << 62, most - 1, most} {
		l = append(l, list(0, 0, n, 0, 0, 3), list(0, 0, 3, 0, 0, n), list(n, 0, 0, 3, 0, 0), list(3, 0, 0, n, 0, 0), list(0, 0, n, 0, n, n, 0, n))
	}
	for _, n := range []int{-limit - 1, -4000, -4001, -1 << 31, -1 << 32, -1 << 62, least + 1, least} {
		l = append(l, list(0, 0, n, 0, 0, -3), list(0, 0, 3, 0, 0, 3, n, 3), list(0, 0, -3, 0, 0, n), list(n, n, 0, n, 0, 0, n, 0))
	}
	return append(l, list(least, least, most, least, most, most, least, most), list(least, 0, 0, least, most, 0, 0, most))
}

// smallLists has all lists of 3 to 5 points of a small grid, also with repeated points.
func smallLists() []api.Ring {
	var l []api.Ring
	points := grid(v(0, 0), v(2, 2))
	last := []api.Ring{nil}
	for n := 1; n <= 5; n++ {
		var longer []api.Ring
		for _, r := range last {
			for _, a := range points {
				longer = append(longer, append(slices.Clone(r), a))
			}
		}
		if n >= 3 {
			l = append(l, longer...)
		}
		last = longer
	}
	return l
}

// smallRings has all valid rings of 3 to 5 vertices of a small grid.
func smallRings() []api.Ring {
	return slices.DeleteFunc(smallLists(), func(r api.Ring) bool { return !isRing(r) })
}

// untangle exchanges the ends of edges that cross, until none do.
func untangle(r api.Ring) {
	for i := 0; i < len(r); i++ {
		for j := i + 2; j < len(r); j++ {
			if seg.Meet(api.Seg{A: r[i], B: r[i+1]}, api.Seg{A: r[j], B: next(r, j)}) == seg.Cross {
				slices.Reverse(r[i+1 : j+1])
				i, j = 0, 1
			}
		}
	}
}

// randomRings has valid rings of all sizes, the same ones in each run.
func randomRings() []api.Ring {
	source := rand.New(rand.NewSource(8))
	var l []api.Ring
	for i := range 600 {
		size := []int{5, 11, 60, 2 * limit}[i%4]
		n := 3 + source.Intn([]int{6, 10, 16, 38}[i%4])
		at := v(source.Intn(2*limit-size+1)-limit, source.Intn(2*limit-size+1)-limit)
		var r api.Ring
		for range n {
			r = append(r, plus(at, v(source.Intn(size+1), source.Intn(size+1))))
		}
		untangle(r)
		if trapezoids(r) < 0 {
			slices.Reverse(r)
		}
		if isRing(r) {
			l = append(l, r)
		}
	}
	return l
}

// rings has valid rings: known ones, some of a small grid, and random ones.
func rings() []api.Ring {
	var few []api.Ring
	for i, r := range smallRings() {
		if i%37 == 0 {
			few = append(few, r)
		}
	}
	return slices.Concat(convexRings(), otherRings(), few, randomRings())
}

// narrow has the rings with a box of at most 30 by 30.
func narrow() []api.Ring {
	return slices.DeleteFunc(rings(), func(r api.Ring) bool {
		lo, hi := around(r)
		return max(hi.X-lo.X, hi.Y-lo.Y) > 32
	})
}

// notRings has all known lists that are not valid rings.
func notRings() []api.Ring {
	var l []api.Ring
	for _, broken := range brokenRings() {
		l = append(l, broken...)
	}
	return l
}

// trapezoids returns the doubled area between a closed list and the axis, where what is below the edges to the left counts.
func trapezoids(r api.Ring) int {
	area := 0
	for i, a := range r {
		b := next(r, i)
		area += (a.X - b.X) * (a.Y + b.Y)
	}
	return area
}

// shared returns how many points two segments of a length greater than 0 have in common, where 2 means more than one. It
// finds how far along each segment the lines meet, without a turn.
func shared(a, b, c, d api.Vec) int {
	dx, dy, ex, ey, fx, fy := b.X-a.X, b.Y-a.Y, d.X-c.X, d.Y-c.Y, c.X-a.X, c.Y-a.Y
	if det := dx*ey - dy*ex; det != 0 {
		n, m := (fx*ey-fy*ex)*det, (fx*dy-fy*dx)*det
		if min(n, m) < 0 || max(n, m) > det*det {
			return 0
		}
		return 1
	}
	if fx*dy != fy*dx {
		return 0
	}
	from := fx*dx + fy*dy
	to := from + ex*dx + ey*dy
	return min(2, max(0, 1+min(dx*dx+dy*dy, max(from, to))-max(0, min(from, to))))
}

// isRing reports whether a ring is valid, by the chapter, point by point.
func isRing(r api.Ring) bool {
	if len(r) < 3 || len(r) > 40 {
		return false
	}
	for _, a := range r {
		if a.X < -limit || a.X > limit || a.Y < -limit || a.Y > limit {
			return false
		}
	}
	for i, a := range r {
		b, c := next(r, i), next(r, i+1)
		if (b.X-a.X)*(c.Y-b.Y) == (b.Y-a.Y)*(c.X-b.X) {
			return false
		}
	}
	for j := range r {
		for i := range j {
			follows := i+1 == j || i == 0 && j == len(r)-1
			if n := shared(r[i], next(r, i), r[j], next(r, j)); follows && n != 1 || !follows && n != 0 {
				return false
			}
		}
	}
	return trapezoids(r) > 0
}

// rat returns a fraction.
func rat(num, den int) *big.Rat { return big.NewRat(int64(num), int64(den)) }

// whereIs returns where a rational point lies, by the edges above it, whose heights are compared as fractions.
func whereIs(r api.Ring, p api.Point) int {
	x, y := rat(p.X, p.Den), rat(p.Y, p.Den)
	above := 0
	for i, a := range r {
		b := next(r, i)
		if a.X > b.X {
			a, b = b, a
		}
		if x.Cmp(rat(a.X, 1)) < 0 || x.Cmp(rat(b.X, 1)) > 0 {
			continue
		}
		if a.X == b.X {
			if y.Cmp(rat(min(a.Y, b.Y), 1)) >= 0 && y.Cmp(rat(max(a.Y, b.Y), 1)) <= 0 {
				return ring.Boundary
			}
			continue
		}
		height := new(big.Rat).Sub(x, rat(a.X, 1))
		height.Mul(height, rat(b.Y-a.Y, b.X-a.X))
		n := height.Add(height, rat(a.Y, 1)).Cmp(y)
		if n == 0 {
			return ring.Boundary
		}
		if n > 0 && x.Cmp(rat(b.X, 1)) < 0 {
			above++
		}
	}
	if above%2 == 1 {
		return ring.Inside
	}
	return ring.Outside
}

// The models and the samples are what they are called.
func TestSamples(t *testing.T) {
	for _, r := range rings() {
		if !isRing(r) {
			t.Errorf("%v is not valid for the model", r)
		}
	}
	for name, l := range brokenRings() {
		for _, r := range l {
			if isRing(r) {
				t.Errorf("%s: %v is valid for the model", name, r)
			}
		}
	}
	lengths := map[int]int{}
	far := 0
	for _, r := range randomRings() {
		lengths[min(len(r)/5, 4)]++
		if trapezoids(r) > 1000000 {
			far++
		}
	}
	if len(lengths) != 5 || min(lengths[0], lengths[1], lengths[2], lengths[3], lengths[4]) < 20 || far < 50 {
		t.Errorf("only these lengths of random rings: %v, %d large ones", lengths, far)
	}
	if len(smallRings()) < 1000 || len(smallLists()) != 9*9*9+9*9*9*9+9*9*9*9*9 || len(narrow()) < 200 {
		t.Errorf("only %d small rings of %d lists, %d narrow ones", len(smallRings()), len(smallLists()), len(narrow()))
	}
	square := list(0, 0, 4, 0, 4, 4, 0, 4)
	if whereIs(square, pt(1, 1, 2)) != ring.Inside || whereIs(square, pt(8, 1, 2)) != ring.Boundary || whereIs(square, pt(1, 8, 2)) != ring.Boundary || whereIs(square, pt(1, -1, 2)) != ring.Outside || whereIs(square, pt(9, 1, 2)) != ring.Outside || trapezoids(square) != 32 {
		t.Error("the models of a square")
	}
}
