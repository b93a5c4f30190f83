package ring_test

import (
	"math/rand"
	"slices"
	"testing"

	"fretsaw/api"
	"fretsaw/ring"
	"fretsaw/seg"
)

// P8.2: the doubled area is 2 I + B - 2, with the integer points inside and on the boundary.
func TestPick(t *testing.T) {
	for _, r := range append(narrow(), smallRings()...) {
		counts := [3]int{}
		for _, p := range grid(around(r)) {
			counts[ring.Where(r, p)]++
		}
		if ring.Area2(r) != 2*counts[ring.Inside]+counts[ring.Boundary]-2 {
			t.Errorf("%v: the doubled area %d, and %v points", r, ring.Area2(r), counts)
		}
	}
}

// fewPoints has points of and around a ring: its vertices, and a few others.
func fewPoints(r api.Ring) []api.Vec {
	lo, hi := around(r)
	l := []api.Vec{lo, hi, v((lo.X+hi.X)/2, (lo.Y+hi.Y)/2), v((3*lo.X+hi.X)/4, (lo.Y+3*hi.Y)/4), v((lo.X+3*hi.X)/4, (lo.Y+hi.Y)/2)}
	for i, a := range r {
		b := next(r, i)
		l = append(l, a, v((a.X+b.X)/2, (a.Y+b.Y)/2), v(lo.X, a.Y), plus(a, v(0, 1)))
	}
	return l
}

// P8.3: beginning with another vertex changes neither whether a ring is valid or convex, nor its area, nor where a point lies, nor the canonical ring.
func TestBeginnings(t *testing.T) {
	for _, r := range rings() {
		points := fewPoints(r)
		for first := range r {
			l := turned(r, first)
			if !ring.Valid(l) || ring.Convex(l) != ring.Convex(r) || ring.Area2(l) != ring.Area2(r) || !ring.Same(ring.Canonical(l), ring.Canonical(r)) {
				t.Errorf("%v, beginning with the vertex %d", r, first)
			}
			// Of the points, others are tried for each beginning, as there are many.
			for i := first % 4; i < len(points); i += 4 {
				p := points[i]
				if ring.Where(l, p) != ring.Where(r, p) {
					t.Errorf("%v of %v, beginning with the vertex %d: %d", p, r, first, ring.Where(l, p))
				}
			}
		}
	}
	for _, r := range notRings() {
		for first := range min(len(r), 50) {
			if l := turned(r, first); ring.Valid(l) {
				t.Errorf("%v, beginning with the vertex %d, is valid", r, first)
			}
		}
	}
}

// P8.3: a valid ring that is reversed is not valid.
func TestReversedIsNotValid(t *testing.T) {
	for _, r := range append(rings(), smallRings()...) {
		if l := ring.Reverse(r); ring.Valid(l) || ring.Convex(l) || ring.Area2(l) != 0 || !ring.Valid(r) {
			t.Errorf("%v is valid, reversed", r)
		}
	}
}

// P8.3: moving a ring and a point changes nothing but the vertices.
func TestMoved(t *testing.T) {
	visited := 0
	for i, r := range rings() {
		for _, by := range []api.Vec{v(1, 0), v(0, -1), v(-7, 5), v(1900, -1900), v(-1950, 1950), v(-1000, -1990), v(limit/2, limit-7)} {
			m, e := ring.Move(r, by)
			if e != api.OK {
				continue
			}
			visited++
			b, _ := ring.Box(r)
			wantBox := api.Box{Lo: plus(b.Lo, by), Hi: plus(b.Hi, by)}
			if b, ok := ring.Box(m); !ring.Valid(m) || ring.Convex(m) != ring.Convex(r) || ring.Area2(m) != ring.Area2(r) || !ok || b != wantBox || !ring.Same(ring.Canonical(m), moved(ring.Canonical(r), by)) {
				t.Errorf("%v, moved by %v", r, by)
			}
			if back, e := ring.Move(m, v(-by.X, -by.Y)); e != api.OK || !ring.Same(back, r) {
				t.Errorf("%v, moved by %v and back: %v, %v", r, by, back, e)
			}
			for j, p := range fewPoints(r) {
				if (i+j)%3 == 0 && ring.Where(m, plus(p, by)) != ring.Where(r, p) {
					t.Errorf("%v and %v, moved by %v: %d", r, p, by, ring.Where(m, plus(p, by)))
				}
			}
		}
	}
	if visited < 1000 {
		t.Errorf("only %d moves were tried", visited)
	}
}

// P8.4: a point lies on the boundary exactly if it lies on an edge; Where and WherePoint are the same for integer points.
func TestBoundary(t *testing.T) {
	counts := map[bool]int{}
	for _, r := range rings() {
		for _, p := range fewPoints(r) {
			n := ring.Where(r, p)
			isOn := slices.ContainsFunc(ring.Edges(r), func(e api.Seg) bool { return seg.On(e, p) })
			counts[isOn]++
			if (n == ring.Boundary) != isOn || ring.WherePoint(r, seg.PointOf(p)) != n {
				t.Errorf("%v of %v: %d, %d", p, r, n, ring.WherePoint(r, seg.PointOf(p)))
			}
		}
		for _, p := range []api.Vec{v(4000, 4000), v(-4000, 0), v(4001, 0), v(0, most), v(least, least)} {
			if ring.Where(r, p) != ring.Outside || ring.WherePoint(r, seg.PointOf(p)) != ring.Outside {
				t.Errorf("%v of %v: %d, %d", p, r, ring.Where(r, p), ring.WherePoint(r, seg.PointOf(p)))
			}
		}
	}
	if min(counts[true], counts[false]) < 1000 {
		t.Errorf("only these points were tried: %v", counts)
	}
}

// P8.4: rational points n / m of the way along an edge lie on the boundary.
func TestPointsOfEdges(t *testing.T) {
	for _, r := range rings() {
		for _, e := range ring.Edges(r) {
			for _, den := range []int{1, 2, 3, 7, 1 << 20, maxDen} {
				for _, n := range []int{0, 1, den / 3, den - 1, den} {
					p := pt(e.A.X*den+n*(e.B.X-e.A.X), e.A.Y*den+n*(e.B.Y-e.A.Y), den)
					if ring.WherePoint(r, p) != ring.Boundary {
						t.Errorf("%v of %v: %d", p, r, ring.WherePoint(r, p))
					}
				}
			}
		}
	}
}

// isClear reports whether a segment has no point in common with the edges of a ring.
func isClear(edges []api.Seg, s api.Seg) bool {
	return !slices.ContainsFunc(edges, func(e api.Seg) bool { return seg.Meet(e, s) != seg.None })
}

// P8.5: two points that a segment connects which meets no edge lie on the same side.
func TestPaths(t *testing.T) {
	source := rand.New(rand.NewSource(885))
	counts := map[int]int{}
	for _, r := range rings() {
		edges := ring.Edges(r)
		lo, hi := around(r)
		at := func() api.Vec { return v(lo.X+source.Intn(hi.X-lo.X+1), lo.Y+source.Intn(hi.Y-lo.Y+1)) }
		for range 200 {
			s := api.Seg{A: at(), B: at()}
			if !isClear(edges, s) {
				continue
			}
			n := ring.Where(r, s.A)
			counts[n]++
			if ring.Where(r, s.B) != n || n == ring.Boundary {
				t.Errorf("%v and %v of %v: %d, %d", s.A, s.B, r, n, ring.Where(r, s.B))
			}
		}
	}
	if min(counts[ring.Inside], counts[ring.Outside]) < 5000 {
		t.Errorf("only these paths were tried: %v", counts)
	}
}

// P8.6: no midpoint of two vertices of a convex ring lies outside.
func TestMidpoints(t *testing.T) {
	visited := 0
	for _, r := range append(rings(), smallRings()...) {
		if !ring.Convex(r) {
			continue
		}
		visited++
		for i, a := range r {
			for _, b := range r[i:] {
				if ring.WherePoint(r, pt(a.X+b.X, a.Y+b.Y, 2)) == ring.Outside {
					t.Errorf("the midpoint of %v and %v of %v lies outside", a, b, r)
				}
			}
		}
	}
	if visited < 300 {
		t.Errorf("only %d rings were tried", visited)
	}
}

// P8.6: in a valid ring that is not convex, a segment between points of the two edges at a vertex has its midpoint outside, if the points are near enough to the vertex.
func TestOutsideOfBays(t *testing.T) {
	const near = 1 << 25
	visited := 0
	for _, r := range append(rings(), smallRings()...) {
		if ring.Convex(r) {
			continue
		}
		visited++
		bays := 0
		for i, a := range r {
			b, c := next(r, i), next(r, i+1)
			before := pt(b.X*near+a.X-b.X, b.Y*near+a.Y-b.Y, near)
			behind := pt(b.X*near+c.X-b.X, b.Y*near+c.Y-b.Y, near)
			if ring.WherePoint(r, before) != ring.Boundary || ring.WherePoint(r, behind) != ring.Boundary {
				t.Errorf("%v and %v are not on the edges of %v", before, behind, r)
			}
			middle := pt(2*b.X*near+a.X-b.X+c.X-b.X, 2*b.Y*near+a.Y-b.Y+c.Y-b.Y, 2*near)
			isBay := (b.X-a.X)*(c.Y-b.Y) < (b.Y-a.Y)*(c.X-b.X)
			if isBay {
				bays++
			}
			if n := ring.WherePoint(r, middle); isBay != (n == ring.Outside) || isBay == (n == ring.Inside) {
				t.Errorf("near %v of %v: %d", b, r, n)
			}
		}
		if bays == 0 {
			t.Errorf("%v turns left everywhere, but is not convex", r)
		}
	}
	if visited < 300 {
		t.Errorf("only %d rings were tried", visited)
	}
}

// cluttered returns the vertices of a ring, some of them repeated, with points on its edges put between them: at most 160 points.
func cluttered(source *rand.Rand, r api.Ring) api.Ring {
	var l api.Ring
	for i, a := range r {
		b := next(r, i)
		l = append(l, slices.Repeat(list(a.X, a.Y), 1+source.Intn(2))...)
		steps := 1
		for n := 2; n <= 3; n++ {
			if (b.X-a.X)%n == 0 && (b.Y-a.Y)%n == 0 {
				steps = n
			}
		}
		for n := 1; n < steps; n++ {
			p := v(a.X+n*(b.X-a.X)/steps, a.Y+n*(b.Y-a.Y)/steps)
			l = append(l, slices.Repeat(list(p.X, p.Y), source.Intn(2))...)
		}
	}
	return l
}

// P8.7: cleaning a valid ring makes it canonical; repeated points, points on edges, the opposite direction, and another beginning change nothing.
func TestCleaning(t *testing.T) {
	source := rand.New(rand.NewSource(887))
	added := 0
	for _, r := range append(rings(), smallRings()...) {
		want := ring.Canonical(r)
		if c, e := ring.Clean(r); e != api.OK || !ring.Same(c, want) {
			t.Errorf("%v is cleaned to %v, %v", r, c, e)
		}
		if c, e := ring.Clean(want); e != api.OK || !ring.Same(c, want) {
			t.Errorf("%v is cleaned to %v, %v", want, c, e)
		}
		for range 4 {
			l := cluttered(source, r)
			added += len(l) - len(r)
			l = turned(l, source.Intn(len(l)))
			for _, l := range []api.Ring{l, backwards(l)} {
				if c, e := ring.Clean(l); e != api.OK || !ring.Same(c, want) {
					t.Errorf("%v is cleaned to %v, %v", l, c, e)
				}
			}
		}
	}
	if added < 10000 {
		t.Errorf("only %d points were added", added)
	}
}

// results has what all functions of a ring, a vector and a rational point return.
type results struct {
	valid, convex, isBox, same bool
	area, at, atPoint          int
	box                        api.Box
	edges                      []api.Seg
	rings                      [4]api.Ring
	moveError, cleanError      api.Errno
}

func resultsOf(r api.Ring, p api.Vec, q api.Point) results {
	n := results{valid: ring.Valid(r), convex: ring.Convex(r), area: ring.Area2(r), at: ring.Where(r, p), atPoint: ring.WherePoint(r, q), edges: ring.Edges(r), same: ring.Same(r, ring.Reverse(r))}
	n.box, n.isBox = ring.Box(r)
	n.rings[0], n.rings[1] = ring.Canonical(r), ring.Reverse(r)
	n.rings[2], n.moveError = ring.Move(r, p)
	n.rings[3], n.cleanError = ring.Clean(r)
	return n
}

func (n results) isEqual(m results) bool {
	for i, r := range n.rings {
		if !slices.Equal(r, m.rings[i]) {
			return false
		}
	}
	return slices.Equal(n.edges, m.edges) && n.valid == m.valid && n.convex == m.convex && n.isBox == m.isBox && n.same == m.same && n.area == m.area && n.at == m.at && n.atPoint == m.atPoint && n.box == m.box && n.moveError == m.moveError && n.cleanError == m.cleanError
}

// P1: nothing panics, the same calls lead to the same results, and no function changes its list, nor what lies behind it.
func TestSameResults(t *testing.T) {
	points := []api.Vec{{}, v(1, 1), v(-3, 7), v(2000, -2000), v(4001, 0), v(least, most), v(most, most)}
	rationals := []api.Point{{}, pt(1, 1, 2), pt(-5, 3, 4), {X: 1, Y: 1, Den: -1}, {X: least, Y: most, Den: maxDen}, {X: most, Y: least, Den: most}, {X: 3, Y: 5, Den: least}}
	for _, r := range slices.Concat(rings(), notRings(), []api.Ring{make(api.Ring, 200), comb(5000)}) {
		kept := append(slices.Clone(r), v(77, -77), v(-77, 77))
		l := slices.Clone(kept)
		for i, p := range points {
			n := resultsOf(l[:len(r)], p, rationals[i])
			if !n.isEqual(resultsOf(l[:len(r)], p, rationals[i])) {
				t.Errorf("%v, %v and %v: not %v again", r, p, rationals[i], n)
			}
			if !slices.Equal(l, kept) {
				t.Fatalf("%v is changed to %v", kept, l)
			}
		}
	}
}

// P1: results share no memory with the list, nor with each other.
func TestResultsAreNew(t *testing.T) {
	for _, r := range slices.Concat(rings(), notRings()) {
		l := slices.Clone(r)
		want := resultsOf(r, api.Vec{}, api.Point{})
		for i := range want.rings {
			n := resultsOf(l, api.Vec{}, api.Point{})
			for j := range n.rings[i] {
				n.rings[i][j] = v(-99, 99)
			}
			n.rings[i] = append(n.rings[i], v(98, -98))
			for j := range n.edges {
				n.edges[j] = api.Seg{A: v(97, 97)}
			}
			n.rings[i], n.edges = want.rings[i], want.edges
			if !slices.Equal(l, r) || !n.isEqual(want) || !resultsOf(l, api.Vec{}, api.Point{}).isEqual(want) {
				t.Fatalf("a result of %v shares its memory", r)
			}
		}
	}
}
