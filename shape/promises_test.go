package shape_test

import (
	"math/rand"
	"slices"
	"testing"

	"fretsaw/api"
	"fretsaw/ring"
	"fretsaw/seg"
	"fretsaw/shape"
	"fretsaw/symmetry"
)

// P12.2: the doubled area is 2 I + B + 2 h - 2, with the integer points inside and on the boundary, and h holes.
func TestPick(t *testing.T) {
	holes := [7]int{}
	for _, s := range narrow() {
		counts := [3]int{}
		for _, p := range grid(around(s.Outer)) {
			counts[shape.Where(s, p)]++
		}
		holes[len(s.Holes)]++
		if n := shape.Area2(s); n != 2*counts[ring.Inside]+counts[ring.Boundary]+2*len(s.Holes)-2 {
			t.Errorf("%v: the doubled area %d, and %v points", s, n, counts)
		}
	}
	if slices.Min(holes[:]) < 2 || min(holes[0], holes[1], holes[2]) < 20 {
		t.Errorf("only these numbers of holes were tried: %v", holes)
	}
}

// P12.3: the order of the holes and the first vertices of the rings matter neither for the area nor for where a point lies nor for the canonical shape.
func TestOrder(t *testing.T) {
	source := rand.New(rand.NewSource(123))
	for i, s := range validShapes() {
		other := shuffled(source, s)
		if !shape.Valid(other) || shape.Area2(other) != shape.Area2(s) {
			t.Errorf("%v: %v, %d, but %v: %d", other, shape.Valid(other), shape.Area2(other), s, shape.Area2(s))
		}
		c := shape.Canonical(s)
		if d := shape.Canonical(other); !shape.Same(c, d) || !shape.Same(c, shape.Canonical(c)) {
			t.Errorf("%v is made canonical as %v, but %v as %v", s, c, other, d)
		}
		for n := range 8 {
			m, _ := shape.Turn(s, n)
			if k, e := shape.Turn(other, n); e != api.OK || !shape.Same(m, k) {
				t.Errorf("%d maps %v to %v, but %v to %v, %v", n, s, m, other, k, e)
			}
		}
		for _, a := range fewHalves(s, i, 40) {
			place := shape.WherePoint(s, half(a))
			if n := shape.WherePoint(other, half(a)); n != place {
				t.Errorf("%v lies at %d of %v, and at %d of %v", half(a), place, s, n, other)
			}
			if n := shape.WherePoint(c, half(a)); n != place {
				t.Errorf("%v lies at %d of %v, and at %d of %v", half(a), place, s, n, c)
			}
		}
	}
}

// P12.3: the order of the holes and the first vertices of the rings do not make a shape valid that is not.
func TestOrderOfBrokenShapes(t *testing.T) {
	source := rand.New(rand.NewSource(1230))
	visited := 0
	for _, s := range append(allBroken(), changedShapes()...) {
		if slices.ContainsFunc(ringsIn(s), func(r api.Ring) bool { return len(r) == 0 }) {
			continue
		}
		want := shape.Valid(s)
		if !want {
			visited++
		}
		for range 3 {
			if other := shuffled(source, s); shape.Valid(other) != want || want != (len(shape.Canonical(other).Outer) > 0) {
				t.Errorf("%v: %v, but %v: %v", other, shape.Valid(other), s, want)
			}
		}
	}
	if visited < 500 {
		t.Errorf("only %d shapes were tried", visited)
	}
}

// P12.4: a point lies inside exactly if it lies inside of the outer ring and outside of all holes; the boundary is that of all rings.
func TestHolesOfPoints(t *testing.T) {
	counts := [3]int{}
	for i, s := range validShapes() {
		for _, a := range fewHalves(s, i, 80) {
			p := half(a)
			isInside, isOnRing := ring.WherePoint(s.Outer, p) == ring.Inside, ring.WherePoint(s.Outer, p) == ring.Boundary
			for _, hole := range s.Holes {
				isInside = isInside && ring.WherePoint(hole, p) == ring.Outside
				isOnRing = isOnRing || ring.WherePoint(hole, p) == ring.Boundary
			}
			n := shape.WherePoint(s, p)
			counts[n]++
			if (n == ring.Inside) != isInside || (n == ring.Boundary) != isOnRing {
				t.Errorf("%v of %v: %d", p, s, n)
			}
			if q, ok := seg.Whole(p); ok && shape.Where(s, q) != n {
				t.Errorf("%v of %v: %d, and as a rational point %d", q, s, shape.Where(s, q), n)
			}
		}
	}
	if slices.Min(counts[:]) < 2000 {
		t.Errorf("only these points were tried: %v", counts)
	}
}

// P12.4: without one of its holes, a valid shape is valid, has a greater area, and has the hole's inside and boundary inside.
func TestWithoutAHole(t *testing.T) {
	visited := 0
	for _, s := range validShapes() {
		for i, hole := range s.Holes {
			visited++
			fewer := with(s.Outer, slices.Concat(s.Holes[:i], s.Holes[i+1:])...)
			if !shape.Valid(fewer) || shape.Area2(fewer) <= shape.Area2(s) || shape.Area2(fewer) != shape.Area2(s)+ring.Area2(hole) {
				t.Errorf("without %v: %v, the doubled area %d, not %d: %v", hole, shape.Valid(fewer), shape.Area2(fewer), shape.Area2(s), s)
			}
			for j, a := range hole[:min(4, len(hole))] {
				b := hole[(j+1)%len(hole)]
				if shape.Where(fewer, a) != ring.Inside || shape.WherePoint(fewer, pt(a.X+b.X, a.Y+b.Y, 2)) != ring.Inside {
					t.Errorf("without %v: %v and the middle behind it do not lie inside of %v", hole, a, fewer)
				}
			}
		}
	}
	if visited < 500 {
		t.Errorf("only %d holes were tried", visited)
	}
}

// P12.5: moving keeps validity and area, and, for a point that is moved, too, where it lies; it keeps the order, so canonical shapes stay so.
func TestMovedShapes(t *testing.T) {
	for i, s := range validShapes() {
		b, _ := shape.Box(s)
		for _, by := range []api.Vec{v(3, -2), v(limit-b.Hi.X, -limit-b.Lo.Y), v(-limit-b.Lo.X, limit-b.Hi.Y)} {
			m, e := shape.Move(s, by)
			if e != api.OK {
				if by != v(3, -2) || e != api.ErrRange {
					t.Errorf("%v, moved by %v: %v", s, by, e)
				}
				continue
			}
			c, _ := shape.Move(shape.Canonical(s), by)
			if !shape.Valid(m) || shape.Area2(m) != shape.Area2(s) || !shape.Same(c, shape.Canonical(m)) {
				t.Errorf("%v, moved by %v: %v, %v, %d", s, by, m, shape.Valid(m), shape.Area2(m))
			}
			if c, ok := shape.Box(m); !ok || c != (api.Box{Lo: plus(b.Lo, by), Hi: plus(b.Hi, by)}) {
				t.Errorf("%v, moved by %v, has the box %v", s, by, c)
			}
			for _, a := range fewHalves(s, i, 20) {
				to := plus(a, v(2*by.X, 2*by.Y))
				if isFar := max(to.X, -to.X, to.Y, -to.Y) > 2*seg.Limit; !isFar && shape.WherePoint(m, half(to)) != shape.WherePoint(s, half(a)) {
					t.Errorf("%v lies at %d of %v, but, moved by %v, at %d", half(a), shape.WherePoint(s, half(a)), s, by, shape.WherePoint(m, half(to)))
				}
			}
		}
	}
}

// P12.5: moving by two vectors is moving by their sum.
func TestTwoMoves(t *testing.T) {
	source := rand.New(rand.NewSource(125))
	counts := map[api.Errno]int{}
	for _, s := range validShapes() {
		b, _ := shape.Box(s)
		into := func() api.Vec {
			return v(source.Intn(2*limit-b.Hi.X+b.Lo.X+1)-limit-b.Lo.X, source.Intn(2*limit-b.Hi.Y+b.Lo.Y+1)-limit-b.Lo.Y)
		}
		first := into()
		m, e := shape.Move(s, first)
		if e != api.OK {
			t.Errorf("%v, moved by %v: %v", s, first, e)
		}
		sums := []api.Vec{{}, into(), into(), v(limit-b.Hi.X+1, 0), v(-limit-b.Lo.X, -limit-b.Lo.Y-1)}
		for _, sum := range sums {
			second := plus(sum, v(-first.X, -first.Y))
			once, e := shape.Move(s, sum)
			counts[e]++
			if twice, eTwice := shape.Move(m, second); e != eTwice || !shape.Same(once, twice) {
				t.Errorf("%v, moved by %v and %v: %v, %v, but by the sum: %v, %v", s, first, second, twice, eTwice, once, e)
			}
		}
	}
	if min(counts[api.OK], counts[api.ErrRange]) < 300 {
		t.Errorf("only these moves were tried: %v", counts)
	}
}

// P12.5: turning keeps validity and area, makes canonical, and keeps, for a point that is turned, too, where it lies.
func TestTurnedShapes(t *testing.T) {
	for i, s := range validShapes() {
		b, _ := shape.Box(s)
		for n := range 8 {
			m, e := shape.Turn(s, n)
			if e != api.OK || !shape.Valid(m) || shape.Area2(m) != shape.Area2(s) || !shape.Same(m, shape.Canonical(m)) {
				t.Errorf("%d maps %v to %v, %v, %v, %d", n, s, m, e, shape.Valid(m), shape.Area2(m))
			}
			if c, ok := shape.Box(m); !ok || c != symmetry.Box(n, b) {
				t.Errorf("%d maps %v to %v, with the box %v", n, s, m, c)
			}
			for _, a := range fewHalves(s, i+n, 12) {
				if shape.WherePoint(m, half(symmetry.Vec(n, a))) != shape.WherePoint(s, half(a)) {
					t.Errorf("%d maps %v, which lies at %d of %v, to %d", n, half(a), shape.WherePoint(s, half(a)), s, shape.WherePoint(m, half(symmetry.Vec(n, a))))
				}
			}
		}
	}
}

// P12.5: placing by a symmetry and then by another one, without moving, is placing by their composition; the inverse leads back.
func TestTwoTurns(t *testing.T) {
	for i, s := range validShapes() {
		for n := range 8 {
			first, e := shape.Place(s, n, api.Vec{})
			if e != api.OK {
				t.Errorf("%v is not placed by %d: %v", s, n, e)
			}
			if back, _ := shape.Place(first, symmetry.Inverse(n), api.Vec{}); !shape.Same(back, shape.Canonical(s)) {
				t.Errorf("%d maps %v to %v, and back to %v", n, s, first, back)
			}
			for m := range 8 {
				if len(s.Outer) > 9 && (i+m)%4 != 0 {
					continue
				}
				twice, e := shape.Place(first, m, api.Vec{})
				if once, eOnce := shape.Place(s, symmetry.Then(n, m), api.Vec{}); e != api.OK || eOnce != api.OK || !shape.Same(once, twice) {
					t.Errorf("%v is placed by %d and %d as %v, %v, but by both as %v, %v", s, n, m, twice, e, once, eOnce)
				}
			}
		}
	}
}

// P12.5: a placed shape is the turned one that is moved, and where a placed point lies does not change.
func TestPlacedShapes(t *testing.T) {
	for i, s := range narrow() {
		for n := range 8 {
			turned, _ := shape.Turn(s, n)
			b, _ := shape.Box(turned)
			by := v(limit-b.Hi.X, -limit-b.Lo.Y)
			want, _ := shape.Move(turned, by)
			m, e := shape.Place(s, n, by)
			if e != api.OK || !shape.Same(m, want) || !shape.Valid(m) || shape.Area2(m) != shape.Area2(s) || !shape.Same(m, shape.Canonical(m)) {
				t.Errorf("%v is placed by %d and %v as %v, %v, not as %v", s, n, by, m, e, want)
			}
			for j, a := range s.Outer {
				p := plus(a, v((i+j)%3-1, (i+n)%3-1))
				if shape.Where(m, plus(symmetry.Vec(n, p), by)) != shape.Where(s, p) {
					t.Errorf("%v lies at %d of %v, but, placed by %d and %v, at %d", p, shape.Where(s, p), s, n, by, shape.Where(m, plus(symmetry.Vec(n, p), by)))
				}
			}
		}
	}
}

// results has what all functions of a shape, another one, a symmetry, a vector and a rational point return.
type results struct {
	valid, isBox, same bool
	area, at, atPoint  int
	box                api.Box
	edges              []api.Seg
	rings              []api.Ring
	shapes             [5]api.Shape
	errors             [3]api.Errno
}

func resultsOf(s, other api.Shape, n int, a api.Vec, p api.Point) results {
	r := results{valid: shape.Valid(s), same: shape.Same(s, other), area: shape.Area2(s), at: shape.Where(s, a), atPoint: shape.WherePoint(s, p), edges: shape.Edges(s), rings: shape.Rings(s)}
	r.box, r.isBox = shape.Box(s)
	r.shapes[0], r.shapes[1] = shape.Canonical(s), shape.Rectangle(a, v(p.X, p.Y))
	r.shapes[2], r.errors[0] = shape.Move(s, a)
	r.shapes[3], r.errors[1] = shape.Turn(s, n)
	r.shapes[4], r.errors[2] = shape.Place(s, n, a)
	return r
}

func (r results) isEqual(q results) bool {
	for i, s := range r.shapes {
		if !isSame(s, q.shapes[i]) {
			return false
		}
	}
	return slices.Equal(r.edges, q.edges) && slices.EqualFunc(r.rings, q.rings, slices.Equal[api.Ring]) && r.errors == q.errors && r.box == q.box && r.valid == q.valid && r.isBox == q.isBox && r.same == q.same && r.area == q.area && r.at == q.at && r.atPoint == q.atPoint
}

// padded returns a copy of a shape whose lists have further elements behind them, and the lists with these.
func padded(s api.Shape) (given, whole api.Shape) {
	pad := func(r api.Ring) api.Ring { return slices.Concat(r, list(77, -77, -77, 77)) }
	whole.Outer = pad(s.Outer)
	given.Outer = whole.Outer[:len(s.Outer)]
	for _, hole := range s.Holes {
		whole.Holes = append(whole.Holes, pad(hole))
	}
	whole.Holes = append(whole.Holes, list(5, 6, 7, 8))
	given.Holes = slices.Clone(whole.Holes)[:len(s.Holes)]
	for i, hole := range s.Holes {
		given.Holes[i] = whole.Holes[i][:len(hole)]
	}
	return given, whole
}

// P1: nothing panics, the same calls lead to the same results, and no function changes its shape, nor what lies behind its lists.
func TestSameResults(t *testing.T) {
	vectors := []api.Vec{{}, v(1, 1), v(-3, 7), v(limit, -limit), v(4001, 0), v(least, most), v(most, most)}
	points := []api.Point{{}, pt(1, 1, 2), pt(-5, 3, 4), {X: 1, Y: 1, Den: -1}, {X: least, Y: most, Den: maxDen}, {X: most, Y: least, Den: most}, {X: 3, Y: 5, Den: least}}
	numbers := append([]int{0, 1, 2, 3, 4, 5, 6, 7}, notSymmetries()...)
	for i, s := range slices.Concat(validShapes(), allBroken(), []api.Shape{with(comb(0, 0, 5000, 1), comb(0, 0, 5000, 1))}) {
		given, whole := padded(s)
		kept, order := copyOf(whole), slices.Clone(given.Holes[:len(s.Holes)+1])
		for j := range 7 {
			n := numbers[(i+j)%len(numbers)]
			r := resultsOf(given, s, n, vectors[j], points[j])
			if !r.isEqual(resultsOf(given, s, n, vectors[j], points[j])) {
				t.Errorf("%v, %d, %v and %v: not %v again", s, n, vectors[j], points[j], r)
			}
			if !isSame(whole, kept) || !slices.EqualFunc(order, given.Holes[:len(s.Holes)+1], slices.Equal[api.Ring]) || !isSame(given, s) {
				t.Fatalf("%v is changed to %v, with %v behind it", s, given, whole)
			}
		}
	}
}

// spoil changes all vertices of a shape, and what lies behind its lists.
func spoil(s api.Shape) {
	for _, r := range append(slices.Clone(s.Holes), s.Outer) {
		for i := range r {
			r[i] = v(-99, 99)
		}
		_ = append(r, v(98, -98))
	}
	_ = append(s.Holes, list(1, 2))
	for i := range s.Holes {
		s.Holes[i] = nil
	}
}

// P1: results share no memory with the shape, even if nothing is changed in it, nor with each other.
func TestResultsAreNew(t *testing.T) {
	for i, s := range slices.Concat(validShapes(), allBroken()) {
		if isShape(s) {
			s = shape.Canonical(s)
		}
		given, whole := padded(s)
		kept := copyOf(whole)
		by, n := v(0, 0), i%9
		want := resultsOf(s, s, n, by, pt(1, 1, 1))
		for j := range want.shapes {
			r := resultsOf(given, s, n, by, pt(1, 1, 1))
			spoil(r.shapes[j])
			for k := range r.edges {
				r.edges[k] = api.Seg{A: v(97, 97)}
			}
			r.shapes[j], r.edges = want.shapes[j], want.edges
			if !isSame(whole, kept) || !isSame(given, s) || !r.isEqual(want) {
				t.Fatalf("a result of %v shares its memory", s)
			}
		}
	}
}

// P1: the rings that a result has share no memory with the shape, nor with each other.
func TestRingsAreNew(t *testing.T) {
	for i, s := range slices.Concat(validShapes(), allBroken()) {
		given, whole := padded(s)
		kept := copyOf(whole)
		results := [][]api.Ring{shape.Rings(given)}
		for _, n := range []int{0, 4, i % 8} {
			placed, _ := shape.Turn(given, n)
			moved, _ := shape.Move(given, v(0, 0))
			results = append(results, ringsIn(placed), ringsIn(moved), ringsIn(shape.Canonical(given)))
		}
		for _, rings := range results {
			var want []api.Ring
			for _, r := range rings {
				want = append(want, slices.Clone(r))
			}
			for j, r := range rings {
				for k := range r {
					r[k] = v(-99, 99)
				}
				_ = append(r, v(98, -98))
				for k := range rings {
					if k > j && !slices.Equal(rings[k], want[k]) {
						t.Fatalf("two rings of a result of %v share their memory", s)
					}
				}
			}
		}
		if !isSame(whole, kept) || !isSame(given, s) {
			t.Fatalf("a ring of a result of %v shares its memory", s)
		}
	}
}
