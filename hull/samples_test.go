package hull_test

import (
	"cmp"
	"math"
	"math/rand"
	"slices"
	"testing"

	"fretsaw/api"
	"fretsaw/hull"
)

const (
	least = math.MinInt
	most  = math.MaxInt
	limit = 8000
)

// v returns the vector with two coordinates.
func v(x, y int) api.Vec { return api.Vec{X: x, Y: y} }

// list returns the ring with the vertices of which the coordinates are given.
func list(l ...int) api.Ring {
	var r api.Ring
	for i := 0; i+1 < len(l); i += 2 {
		r = append(r, v(l[i], l[i+1]))
	}
	return r
}

// next returns the vertex behind an index, around the end.
func next(r api.Ring, i int) api.Vec { return r[(i+1)%len(r)] }

// plus returns the sum of two vectors.
func plus(a, b api.Vec) api.Vec { return v(a.X+b.X, a.Y+b.Y) }

// dot returns the scalar product.
func dot(a, b api.Vec) int { return a.X*b.X + a.Y*b.Y }

// left tells on which side of the line from a to b a point is: positive to the left, negative to the right.
func left(a, b, p api.Vec) int { return (p.Y-a.Y)*(b.X-a.X) - (b.Y-a.Y)*(p.X-a.X) }

// isLess reports whether a vector is lower than another one, or as low and further to the left.
func isLess(a, b api.Vec) bool { return a.Y < b.Y || a.Y == b.Y && a.X < b.X }

// isInLimits reports whether all coordinates are from -8000 to 8000.
func isInLimits(l []api.Vec) bool {
	return !slices.ContainsFunc(l, func(a api.Vec) bool {
		return a.X < -limit || a.X > limit || a.Y < -limit || a.Y > limit
	})
}

// isConvex reports whether a ring is convex, by the definition, pair by pair.
func isConvex(r api.Ring) bool {
	if len(r) < 3 || len(r) > 160 || !isInLimits(r) {
		return false
	}
	for i, a := range r {
		for j, p := range r {
			isEnd := j == i || j == (i+1)%len(r)
			if !isEnd && left(a, next(r, i), p) <= 0 {
				return false
			}
		}
	}
	return true
}

// canonical returns the ring that begins with its least vertex.
func canonical(r api.Ring) api.Ring {
	first := 0
	for i, a := range r {
		if isLess(a, r[first]) {
			first = i
		}
	}
	return slices.Concat(r[first:], r[:first])
}

// isOn reports whether a point lies on the segment between two points.
func isOn(a, b, p api.Vec) bool {
	return left(a, b, p) == 0 && min(a.X, b.X) <= p.X && p.X <= max(a.X, b.X) && min(a.Y, b.Y) <= p.Y && p.Y <= max(a.Y, b.Y)
}

// whereIs returns where a point near the limits lies, by the definition.
func whereIs(r api.Ring, p api.Vec) int {
	if !isConvex(r) {
		return 0
	}
	place := 2
	for i, a := range r {
		if isOn(a, next(r, i), p) {
			return 1
		}
		if left(a, next(r, i), p) <= 0 {
			place = 0
		}
	}
	return place
}

// isHull reports whether a ring is the hull of a list, by the definition: it is convex and canonical, its vertices are points of
// the list, and all points of the list are to the left of each edge, or on it.
func isHull(r api.Ring, l []api.Vec) bool {
	if !isConvex(r) || !slices.Equal(r, canonical(r)) {
		return false
	}
	for i, a := range r {
		if !slices.Contains(l, a) || slices.ContainsFunc(l, func(p api.Vec) bool { return left(a, next(r, i), p) < 0 }) {
			return false
		}
	}
	return true
}

// areCollinear reports whether all points of a list lie on one line, are equal, or do not exist.
func areCollinear(l []api.Vec) bool {
	for _, a := range l {
		if a != l[0] {
			return !slices.ContainsFunc(l, func(p api.Vec) bool { return left(l[0], a, p) != 0 })
		}
	}
	return true
}

// wrapped returns the hull of a list, and its error, in another way: a line is turned around the points, from the least one on.
func wrapped(l []api.Vec) (api.Ring, api.Errno) {
	switch {
	case len(l) > 400:
		return nil, api.ErrLimit
	case !isInLimits(l):
		return nil, api.ErrRange
	case areCollinear(l):
		return nil, api.ErrShape
	}
	at := canonical(l)[0]
	var r api.Ring
	for len(r) == 0 || at != r[0] {
		r = append(r, at)
		to := at
		for _, p := range l {
			// Of points on the same line, the last one is a vertex.
			if side := left(at, to, p); to == at || side < 0 || side == 0 && isOn(at, p, to) {
				to = p
			}
		}
		at = to
	}
	if len(r) > 160 {
		return nil, api.ErrLimit
	}
	return r, api.OK
}

// bowl returns a convex ring of up to 179 vertices on a parabola.
func bowl(n int) api.Ring {
	var r api.Ring
	for i := range n {
		r = append(r, v(i-n/2, (i-n/2)*(i-n/2)))
	}
	return r
}

// divisor returns the greatest common divisor of two numbers.
func divisor(a, b int) int {
	for b != 0 {
		a, b = b, a%b
	}
	return max(a, -a)
}

// wheel returns a round canonical ring of n vertices, an even number, that turns left at all of them: its edges lead in n
// different directions, and each one is as long as the opposite one.
func wheel(n int) api.Ring {
	var edges []api.Vec
	for size := 1; len(edges) < n/2; size++ {
		for y := range size + 1 {
			for x := -size; x <= size && len(edges) < n/2; x++ {
				isNew := max(x, -x, y) == size && (y > 0 || x > 0)
				if isNew && divisor(x, y) == 1 {
					edges = append(edges, v(x, y))
				}
			}
		}
	}
	slices.SortFunc(edges, func(a, b api.Vec) int { return cmp.Compare(0, left(v(0, 0), a, b)) })
	var r api.Ring
	at := v(0, 0)
	for i := range n {
		r = append(r, at)
		if i < n/2 {
			at = plus(at, edges[i])
		} else {
			at = plus(at, v(-edges[i-n/2].X, -edges[i-n/2].Y))
		}
	}
	return r
}

// canonicalRings has known rings that are convex, and begin with their least vertex.
func canonicalRings() []api.Ring {
	return []api.Ring{
		list(0, 0, 1, 0, 0, 1), list(0, 0, 1, 0, 1, 1), list(0, 0, 1, 1, 0, 1), list(0, 0, 4, 0, 4, 2, 0, 2), list(0, 0, 2, 0, 2, 2, 0, 2), list(0, -2, 2, 0, 0, 2, -2, 0), list(1, 0, 3, 0, 4, 2, 3, 4, 1, 4, 0, 2), list(5, -1, 7, 3, 0, 1), list(-9, 4, -5, 5, -7, 8), list(-3, 0, 3, 0, 0, 4), list(0, 0, 7, 1, 9, 3, 10, 8, 2, 5),
		list(-8000, -8000, 8000, -8000, 8000, 8000, -8000, 8000), list(0, -8000, 8000, 0, 0, 8000, -8000, 0), list(-8000, -8000, 8000, 7999, 8000, 8000), list(-8000, -8000, 8000, 8000, 7999, 8000), list(8000, 7999, 8000, 8000, 7999, 8000), list(-8000, -8000, -7999, -8000, -8000, -7999), list(-8000, 0, 8000, 1, -8000, 1),
		wheel(4), wheel(6), wheel(8), wheel(40), wheel(158), wheel(160),
	}
}

// convexRings has known rings that are convex, some of which begin with other vertices.
func convexRings() []api.Ring {
	l := append(canonicalRings(), bowl(3), bowl(4), bowl(5), bowl(41), bowl(159), bowl(160))
	for i, r := range l {
		n := (3*i + 1) % len(r)
		l = append(l, slices.Concat(r[n:], r[:n]))
	}
	return l
}

// every returns the ring with every n-th vertex of a list, around the end, until it comes back to the first one.
func every(l api.Ring, n int) api.Ring {
	var r api.Ring
	for i := 0; i == 0 || i%len(l) != 0; i += n {
		r = append(r, l[i%len(l)])
	}
	return r
}

// notConvex has known lists that are no convex rings, by what is wrong with them.
func notConvex() map[string][]api.Ring {
	m := map[string][]api.Ring{
		"too few vertices": {nil, {}, list(3, 4), list(0, 0, 4, 0), list(1, 1, 1, 1)},
		"too many":         {wheel(162), wheel(400), wheel(600), bowl(161), bowl(179), slices.Concat(wheel(160), list(-1, 1)), make(api.Ring, 161), make(api.Ring, 3000)},
		"clockwise":        {list(0, 0, 0, 2, 4, 0), list(0, 4, 4, 4, 4, 0, 0, 0), list(1, 1, 0, 0, 0, 1), every(bowl(160), 159)},
		"collinear":        {list(0, 0, 2, 0, 4, 0, 0, 2), list(0, 0, 4, 0, 4, 1, 4, 2), list(0, 0, 2, 2, 0, 4, -1, 2, 0, 0), list(1, 0, 2, 0, 2, 2, 0, 2, 0, 0), list(0, 0, 4, 0, 2, 2, 0, 4, 0, 2), list(0, 0, 1, 1, 2, 2), list(0, 0, 4, 0, 2, 0), list(0, 3, 0, 1, 0, 2), list(0, 0, 6, 0, 6, 6, 4, 4), make(api.Ring, 3), make(api.Ring, 160)},
		"repeated":         {list(0, 0, 4, 0, 4, 0, 0, 4), list(0, 0, 4, 0, 0, 0), list(0, 0, 4, 0, 0, 0, 0, 4), list(0, 0, 4, 0, 4, 4, 0, 0, 0, 4), list(0, 0, 4, 0, 4, 4, 0, 4, 4, 4)},
		"right turns":      {list(0, 0, 4, 0, 1, 1, 0, 4), list(0, 0, 4, 0, 4, 4, 2, 1), list(0, 0, 3, 0, 3, 1, 1, 1, 1, 3, 0, 3), list(0, 0, 4, 0, 0, 4, 4, 4), list(0, 0, 4, 4, 4, 0, 0, 4), list(0, 0, 8, 0, 8, 4, 6, 4, 4, 2, 2, 4, 0, 4)},
		"beyond the limit": {list(-8001, 0, 0, -3, 0, 0), list(0, 0, 8001, 0, 0, 3), list(0, 0, 3, 0, 0, 8001), list(0, -8001, 3, 0, 0, 0), list(-8000, -8000, 8001, 7999, 8000, 8000), list(0, 0, 1<<32, 0, 0, 1), list(0, 0, most, 0, 0, most), list(0, 0, most, 0, 0, 1), list(least, 0, 0, least, 0, 0), list(least, least, most, least, most, most, least, most), list(1<<32, 1<<32, 1<<32+1, 1<<32, 1<<32, 1<<32+1), list(most-1, 0, most, 0, most, 1), list(least, 0, least+1, 0, least, 1)},
	}
	// These turn left at all vertices, and wind around 2 to 79 times.
	m["winding around"] = []api.Ring{list(0, 0, 4, 0, 0, 4, 0, 0, 4, 0, 0, 4), every(list(0, 0, 6, 0, 8, 5, 3, 9, -2, 5), 2), every(bowl(5), 2), every(bowl(7), 2), every(bowl(7), 3), every(bowl(159), 2), every(bowl(159), 79), every(bowl(100), 3), slices.Concat(wheel(80), wheel(80)), slices.Concat(wheel(4), wheel(4)), list(0, 0, 10, 0, 10, 10, -2, 10, -2, 4, 4, 4, 4, 6, -4, 6)}
	for _, r := range canonicalRings() {
		clockwise := slices.Clone(r)
		slices.Reverse(clockwise)
		m["clockwise"] = append(m["clockwise"], clockwise)
		m["repeated"] = append(m["repeated"], slices.Concat(r, r[:1]), slices.Concat(r[:1], r), slices.Concat(r, r))
	}
	return m
}

// notRings has all known lists that are no convex rings.
func notRings() []api.Ring {
	var l []api.Ring
	for _, broken := range notConvex() {
		l = append(l, broken...)
	}
	return l
}

// randomLists has lists of 0 to 400 points, the same ones in each run, in boxes of all sizes and discs.
func randomLists() [][]api.Vec {
	source := rand.New(rand.NewSource(10))
	var lists [][]api.Vec
	for i := range 900 {
		size := []int{2, 5, 20, 1000, limit}[i%5]
		n := source.Intn([]int{6, 12, 50, 401}[i%4])
		at := v(source.Intn(2*(limit-size)+1)-limit+size, source.Intn(2*(limit-size)+1)-limit+size)
		var l []api.Vec
		for range n {
			p := v(source.Intn(2*size+1)-size, source.Intn(2*size+1)-size)
			isInDisc := p.X*p.X+p.Y*p.Y <= size*size
			if i%3 == 0 || isInDisc {
				l = append(l, plus(at, p))
			}
		}
		lists = append(lists, l)
	}
	return lists
}

// shuffled returns the points of a list in random order, some of them up to three times, n points or a few more.
func shuffled(source *rand.Rand, l []api.Vec, n int) []api.Vec {
	mixed := slices.Clone(l)
	for len(l) > 0 && len(mixed) < n {
		mixed = append(mixed, l[source.Intn(len(l))])
	}
	source.Shuffle(len(mixed), func(i, j int) { mixed[i], mixed[j] = mixed[j], mixed[i] })
	return mixed
}

// randomRings has the hulls of the random lists that have one, by the model, with 3 to 160 vertices, and rings on a parabola and
// round ones that lack some vertices.
func randomRings() []api.Ring {
	source := rand.New(rand.NewSource(1010))
	var l []api.Ring
	for _, points := range randomLists() {
		if r, e := wrapped(points); e == api.OK {
			n := source.Intn(len(r))
			l = append(l, slices.Concat(r[n:], r[:n]))
		}
	}
	for range 100 {
		r := bowl(3 + source.Intn(158))
		if source.Intn(2) == 0 {
			r = wheel(160)
		}
		at := v(source.Intn(6001)-3000, source.Intn(1001)-1000)
		few := 1 + source.Intn(5)
		var some api.Ring
		for _, a := range r {
			if source.Intn(few) == 0 {
				some = append(some, plus(a, at))
			}
		}
		if len(some) >= 3 {
			l = append(l, some)
		}
	}
	return l
}

// rings has convex rings, known and random ones.
func rings() []api.Ring { return append(convexRings(), randomRings()...) }

// directions has directions of all kinds within the limits.
func directions() []api.Vec {
	source := rand.New(rand.NewSource(110))
	l := list(0, 0, 1, 0, 0, 1, -1, 0, 0, -1, 1, 1, -1, 1, 1, -1, -1, -1, 2, 1, -1, 2, 3, -7, 8000, 0, 0, -8000, 8000, 8000, -8000, 8000, 8000, -7999, -7999, -8000, 1, 8000)
	for range 12 {
		l = append(l, v(source.Intn(2*limit+1)-limit, source.Intn(2*limit+1)-limit), v(source.Intn(11)-5, source.Intn(11)-5))
	}
	return l
}

// farDirections has directions beyond the limits.
func farDirections() []api.Vec {
	return list(8001, 0, -8001, 0, 0, 8001, 0, -8001, 8000, 8001, -8001, -8000, 1<<32, 0, 0, 1<<62, 1<<32+1, 1, most, 0, 0, most, least, 0, 0, least, least, least, most, most, least, most)
}

// The models and the samples are what they are called.
func TestSamples(t *testing.T) {
	for _, r := range canonicalRings() {
		if !slices.Equal(r, canonical(r)) {
			t.Errorf("%v is not canonical", r)
		}
	}
	lengths := map[int]int{}
	for _, r := range rings() {
		if !isConvex(r) {
			t.Errorf("%v is not convex for the model", r)
		}
		lengths[len(r)/16]++
	}
	if min(lengths[0], lengths[1], lengths[2], lengths[4], lengths[10]) < 3 {
		t.Errorf("only these lengths of rings: %v", lengths)
	}
	for what, l := range notConvex() {
		for _, r := range l {
			if isConvex(r) {
				t.Errorf("%s: %v is convex for the model", what, r)
			}
		}
	}
	for _, r := range notConvex()["winding around"] {
		for i, a := range r {
			if left(a, next(r, i), next(r, i+1)) <= 0 {
				t.Errorf("%v does not turn left behind %v", r, a)
			}
		}
	}
	if n := len(wheel(400)); n != 400 || len(wheel(600)) != 600 || len(bowl(179)) != 179 || !isInLimits(slices.Concat(wheel(400), wheel(600), bowl(179))) {
		t.Errorf("the large samples: %d vertices", n)
	}
	square := list(0, 0, 4, 0, 4, 4, 0, 4)
	if whereIs(square, v(1, 1)) != hull.Inside || whereIs(square, v(4, 1)) != hull.Boundary || whereIs(square, v(6, 4)) != hull.Outside || whereIs(square, v(5, 2)) != hull.Outside {
		t.Error("the model of a square")
	}
	if !isHull(square, append(list(1, 1, 2, 0), square...)) || isHull(square, append(list(5, 1), square...)) || isHull(square, square[1:]) || isHull(every(square, 3), square) || isHull(list(4, 0, 4, 4, 0, 4, 0, 0), square) {
		t.Error("the model of a hull")
	}
	long := 0
	for _, l := range randomLists() {
		if len(l) > 200 {
			long++
		}
	}
	if long < 30 {
		t.Errorf("only %d long lists", long)
	}
}
