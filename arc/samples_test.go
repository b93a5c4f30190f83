package arc_test

import (
	"math"
	"math/rand"
	"slices"
	"sort"
	"testing"

	"fretsaw/api"
)

const (
	least = math.MinInt
	most  = math.MaxInt
	limit = 2000
)

// v returns the vector with two coordinates.
func v(x, y int) api.Vec { return api.Vec{X: x, Y: y} }

// list returns the points of which the coordinates are given.
func list(l ...int) []api.Vec {
	var points []api.Vec
	for i := 0; i+1 < len(l); i += 2 {
		points = append(points, v(l[i], l[i+1]))
	}
	return points
}

// plus returns the sum of two vectors.
func plus(a, b api.Vec) api.Vec { return v(a.X+b.X, a.Y+b.Y) }

// minus returns the difference of two vectors.
func minus(a, b api.Vec) api.Vec { return v(a.X-b.X, a.Y-b.Y) }

// dot returns the scalar product.
func dot(a, b api.Vec) int { return a.X*b.X + a.Y*b.Y }

// cross returns the cross product.
func cross(a, b api.Vec) int { return a.X*b.Y - a.Y*b.X }

// ccw returns the counterclockwise arc around a center from and to points that are given relative to it.
func ccw(center, p, q api.Vec) api.Arc {
	return api.Arc{From: plus(center, p), To: plus(center, q), Center: center}
}

// opposite returns the opposite arc.
func opposite(a api.Arc) api.Arc {
	return api.Arc{From: a.To, To: a.From, Center: a.Center, Clockwise: !a.Clockwise}
}

// moved returns a list that is moved by a vector.
func moved(l []api.Vec, by api.Vec) []api.Vec {
	var points []api.Vec
	for _, p := range l {
		points = append(points, plus(p, by))
	}
	return points
}

// reversed returns the points of a list in the opposite order.
func reversed(l []api.Vec) []api.Vec {
	l = slices.Clone(l)
	slices.Reverse(l)
	return l
}

// isInLimits reports whether both coordinates are from -2000 to 2000.
func isInLimits(a api.Vec) bool {
	return a.X >= -limit && a.X <= limit && a.Y >= -limit && a.Y <= limit
}

// isArc reports whether an arc is valid, by the definition.
func isArc(a api.Arc) bool {
	if !isInLimits(a.From) || !isInLimits(a.To) || !isInLimits(a.Center) || a.From == a.Center {
		return false
	}
	p, q := minus(a.From, a.Center), minus(a.To, a.Center)
	return dot(p, p) == dot(q, q) && dot(p, p) <= limit*limit
}

// isRoot reports whether a number is the greatest one whose square is at most n, which is not negative.
func isRoot(root, n int) bool {
	// Numbers are compared by quotients, as the square of a number might be beyond the greatest int.
	return root >= 0 && (root == 0 || root <= n/root) && root+1 > n/(root+1)
}

// nearestOn returns the number nearest to the coordinate n of u, if the length of u is made the root of radius2; of two numbers
// that are equally near, it returns the one that is farther from 0. No roots are taken: a number m is too small as long as
// m + 1 / 2 is not beyond the coordinate.
func nearestOn(u api.Vec, n, radius2 int) int {
	m := sort.Search(2*limit, func(m int) bool { return (2*m+1)*(2*m+1)*dot(u, u) > 4*n*n*radius2 })
	if n < 0 {
		return -m
	}
	return m
}

// isNearCircle reports whether the chord from p to q is close, without the root of its distance: 256 times the radius, rounded
// down, is less the tolerance, and then compared by the squares.
func isNearCircle(p, q api.Vec, radius2, tolerance int) bool {
	d := minus(q, p)
	above := sort.Search(256*limit+1, func(n int) bool { return n*n > 65536*radius2 })
	needed := above - 256*tolerance
	return needed <= 0 || needed*needed*dot(d, d) <= 65536*cross(p, q)*cross(p, q)
}

// corners returns p, the points by which an arc from p to q is divided into quarters, and q. The number of the quarter is that of
// the quadrant in which q lies if p is the direction of the first axis.
func corners(p, q api.Vec) []api.Vec {
	l := []api.Vec{p, v(-p.Y, p.X), v(-p.X, -p.Y), v(p.Y, -p.X)}
	x, y := dot(p, q), cross(p, q)
	switch {
	case x >= 0 && y > 0:
		l = l[:1]
	case x < 0 && y >= 0:
		l = l[:2]
	case x <= 0 && y < 0:
		l = l[:3]
	}
	return append(l, q)
}

// refined returns a list with the middle of each two points between which the chapter has one.
func refined(l []api.Vec, radius2, tolerance int) []api.Vec {
	finer := l[:1:1]
	for i, q := range l[1:] {
		p := l[i]
		u := plus(p, q)
		m := v(nearestOn(u, u.X, radius2), nearestOn(u, u.Y, radius2))
		if m != p && m != q && !isNearCircle(p, q, radius2, tolerance) {
			finer = append(finer, m)
		}
		finer = append(finer, q)
	}
	return finer
}

// chain returns the chain of a valid arc in another way: all of its parts are refined at once, until none has a middle.
func chain(a api.Arc, tolerance int) []api.Vec {
	if a.Clockwise {
		return reversed(chain(opposite(a), tolerance))
	}
	p, q := minus(a.From, a.Center), minus(a.To, a.Center)
	l := corners(p, q)
	for {
		finer := refined(l, dot(p, p), tolerance)
		if len(finer) == len(l) {
			return moved(l, a.Center)
		}
		l = finer
	}
}

// onCircle returns all integer points with a squared distance from (0, 0), in the order of their angles.
func onCircle(radius2 int) []api.Vec {
	var l []api.Vec
	for x := range limit + 1 {
		y := sort.Search(limit+1, func(y int) bool { return x*x+y*y >= radius2 })
		// Points with y = 0 are those with x = 0, if turned.
		if x*x+y*y == radius2 && y > 0 {
			l = append(l, v(x, y), v(-y, x), v(-x, -y), v(y, -x))
		}
	}
	slices.SortFunc(l, func(a, b api.Vec) int {
		return cmpFloat(math.Atan2(float64(a.Y), float64(a.X)), math.Atan2(float64(b.Y), float64(b.X)))
	})
	return l
}

// cmpFloat compares two numbers.
func cmpFloat(a, b float64) int {
	switch {
	case a < b:
		return -1
	case a > b:
		return 1
	}
	return 0
}

// both returns arcs, and those that lead through the rest of the circles, with the same ends.
func both(arcs []api.Arc) []api.Arc {
	var l []api.Arc
	for _, a := range arcs {
		other := a
		other.Clockwise = !a.Clockwise
		l = append(l, a, other)
	}
	return l
}

// smallArcs has all arcs around (0, 0) with some small radii, in both directions.
func smallArcs() []api.Arc {
	var l []api.Arc
	for _, radius2 := range []int{1, 2, 4, 5, 8, 9, 10, 13, 25, 50, 65, 100, 325} {
		points := onCircle(radius2)
		for _, p := range points {
			for _, q := range points {
				l = append(l, ccw(v(0, 0), p, q))
			}
		}
	}
	return both(l)
}

// largeArcs has arcs around (0, 0) with the greatest radius, and with others of which the circles have many integer points: full
// circles, and arcs that lead to the other points or, if there are many, to those near the multiples of 90 degrees.
func largeArcs() []api.Arc {
	var l []api.Arc
	for _, radius := range []int{325, 1105, 1885, 1999, 2000} {
		points := onCircle(radius * radius)
		for i := 0; i < len(points); i += 1 + len(points)/30 {
			p := points[i]
			for j, q := range points {
				n := (j - i + len(points) + 2) % (len(points) / 4)
				if n <= 4 || len(points) < 40 {
					l = append(l, ccw(v(0, 0), p, q))
				}
			}
		}
	}
	return both(l)
}

// movedArcs has arcs of all sizes around centers at the limits and elsewhere. Parts of their circles lie beyond the limits.
func movedArcs() []api.Arc {
	source := rand.New(rand.NewSource(11))
	l := []api.Arc{
		ccw(v(2000, 2000), v(-2000, 0), v(0, -2000)), ccw(v(2000, 2000), v(0, -2000), v(-2000, 0)), ccw(v(2000, 2000), v(-1200, -1600), v(-1600, -1200)),
		ccw(v(-2000, -2000), v(2000, 0), v(0, 2000)), ccw(v(-2000, -2000), v(0, 2000), v(2000, 0)), ccw(v(-2000, 2000), v(0, -1), v(1, 0)),
		ccw(v(2000, -2000), v(-1, 0), v(0, 1)), ccw(v(2000, 0), v(-2000, 0), v(-2000, 0)), ccw(v(0, -2000), v(-2000, 0), v(2000, 0)), ccw(v(0, 2000), v(0, -2000), v(0, -2000)),
	}
	for range 1500 {
		size := []int{5, 30, 200, limit}[source.Intn(4)]
		p := v(source.Intn(2*size+1)-size, source.Intn(2*size+1)-size)
		q := []api.Vec{p, v(-p.X, p.Y), v(p.X, -p.Y), v(-p.X, -p.Y), v(p.Y, p.X), v(-p.Y, p.X), v(p.Y, -p.X), v(-p.Y, -p.X)}[source.Intn(8)]
		if a := ccw(v(source.Intn(2*limit+1)-limit, source.Intn(2*limit+1)-limit), p, q); isArc(a) {
			l = append(l, a)
		}
		// The box of both points lies at one of the corners.
		left, right, low, high := min(p.X, q.X, 0), max(p.X, q.X, 0), min(p.Y, q.Y, 0), max(p.Y, q.Y, 0)
		center := []api.Vec{v(limit-right, limit-high), v(-limit-left, limit-high), v(limit-right, -limit-low), v(-limit-left, -limit-low)}[source.Intn(4)]
		if a := ccw(center, p, q); isArc(a) {
			l = append(l, a)
		}
	}
	return both(l)
}

// arcs has valid arcs of all kinds.
func arcs() []api.Arc { return slices.Concat(smallArcs(), largeArcs(), movedArcs()) }

// tolerances returns some tolerances for the n-th arc, so that arcs with the same radius have all of them.
func tolerances(n int) []int { return []int{1, 2, 3 + n%3, 6 + n%44, 50} }

// farNumbers has numbers at the limits, beyond them, and of which the squares wrap around.
func farNumbers() []int {
	return []int{limit, -limit, limit + 1, -limit - 1, 2*limit + 1, 1 << 16, 1 << 31, 1 << 32, -1 << 32, 1<<32 + 1, 1<<32 + limit, 1 << 62, -1 << 62, most - 1, most, least, least + 1, least + limit, most - limit}
}

// brokenArcs has arcs that are not valid.
func brokenArcs() []api.Arc {
	l := []api.Arc{
		{}, {Center: v(7, 7), From: v(7, 7), To: v(7, 7)}, {Center: v(7, 7), From: v(7, 7), To: v(8, 7)}, {Center: v(7, 7), From: v(8, 7), To: v(7, 7)}, {From: v(2000, 0), To: v(0, 1999)},
		{From: v(3, 4), To: v(5, 1)}, {From: v(3, 4), To: v(2, 4)}, {From: v(5, 0), To: v(3, 3)}, {From: v(5, 0), To: v(3, 4), Center: v(1, 0)}, {From: v(1, 0), To: v(2, 0)}, {From: v(1, 1), To: v(1, 0)},
		ccw(v(0, 0), v(2000, 1), v(2000, 1)), ccw(v(0, 0), v(1, -2000), v(1, -2000)), ccw(v(0, 0), v(2000, 2000), v(-2000, 2000)), ccw(v(2000, 0), v(-2001, 0), v(-2001, 0)), ccw(v(2000, 2000), v(-4000, 0), v(0, -4000)), ccw(v(-2000, 0), v(4000, 0), v(4000, 0)),
		ccw(v(0, 0), v(2001, 0), v(2001, 0)), ccw(v(2000, 0), v(1, 0), v(0, 1)), ccw(v(2000, 0), v(0, 1), v(1, 0)), ccw(v(2001, 0), v(-1, 0), v(-1, 0)), ccw(v(0, -2001), v(0, 1), v(0, 1)),
	}
	for _, n := range farNumbers()[2:] {
		for _, center := range []api.Vec{v(n, 0), v(0, n), v(n, n), v(-n, n)} {
			l = append(l, ccw(center, v(5, 0), v(3, 4)), ccw(v(0, 0), v(n, 0), v(0, n)), ccw(v(0, 0), center, center), ccw(center, v(n, 0), v(n, 0)), ccw(center, v(0, 0), v(0, 0)), api.Arc{From: v(5, 0), To: center}, api.Arc{From: center, To: v(5, 0)})
		}
	}
	return both(l)
}

// The models and the samples are what they are called.
func TestSamples(t *testing.T) {
	for _, l := range []struct{ a, b, want []api.Vec }{
		{corners(v(2, 1), v(1, 2)), nil, list(2, 1, 1, 2)}, {corners(v(2, 1), v(-1, 2)), nil, list(2, 1, -1, 2)}, {corners(v(2, 1), v(-2, 1)), nil, list(2, 1, -1, 2, -2, 1)},
		{corners(v(2, 1), v(-2, -1)), nil, list(2, 1, -1, 2, -2, -1)}, {corners(v(2, 1), v(1, -2)), nil, list(2, 1, -1, 2, -2, -1, 1, -2)}, {corners(v(2, 1), v(2, 1)), nil, list(2, 1, -1, 2, -2, -1, 1, -2, 2, 1)},
		{onCircle(25), nil, list(-4, -3, -3, -4, 0, -5, 3, -4, 4, -3, 5, 0, 4, 3, 3, 4, 0, 5, -3, 4, -4, 3, -5, 0)}, {chain(ccw(v(1, 1), v(5, 0), v(0, 5)), 1), nil, list(6, 1, 5, 5, 1, 6)},
	} {
		if !slices.Equal(l.a, l.want) {
			t.Errorf("%v should be %v", l.a, l.want)
		}
	}
	for _, n := range []int{1105, 2000, 1885} {
		if points := onCircle(n * n); len(points) != map[int]int{1105: 108, 1885: 108, 2000: 28}[n] {
			t.Errorf("%d points of the circle with the radius %d", len(points), n)
		}
	}
	if isRoot(3, 16) || !isRoot(4, 16) || isRoot(5, 24) || !isRoot(0, 0) || isRoot(1, 0) || !isRoot(3037000499, most) || isRoot(3037000500, most) {
		t.Error("the model of a root")
	}
	counts := map[int]int{}
	for _, a := range arcs() {
		if !isArc(a) {
			t.Errorf("%v is not valid for the model", a)
		}
		counts[len(corners(minus(a.From, a.Center), minus(a.To, a.Center)))]++
		if !isInLimits(plus(a.Center, minus(a.Center, a.From))) {
			counts[0]++
		}
	}
	if min(counts[0], counts[2], counts[3], counts[4], counts[5]) < 200 {
		t.Errorf("only these arcs: %v", counts)
	}
	for _, a := range brokenArcs() {
		if isArc(a) {
			t.Errorf("%v is valid for the model", a)
		}
	}
}
