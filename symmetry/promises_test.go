package symmetry_test

import (
	"slices"
	"testing"

	"fretsaw/api"
	"fretsaw/ring"
	"fretsaw/symmetry"
	"fretsaw/vec"
)

// P9.2: Then is associative, 0 is neutral, and Inverse undoes on either side, as no other symmetry does.
func TestGroup(t *testing.T) {
	for n := range symmetry.Count {
		if symmetry.Then(0, n) != n || symmetry.Then(n, 0) != n {
			t.Errorf("0 is not neutral with %d", n)
		}
		for m := range symmetry.Count {
			undoes := m == symmetry.Inverse(n)
			if (symmetry.Then(n, m) == 0) != undoes || (symmetry.Then(m, n) == 0) != undoes {
				t.Errorf("%d and %d, which are %d and %d, with the inverse %d", n, m, symmetry.Then(n, m), symmetry.Then(m, n), symmetry.Inverse(n))
			}
			if !symmetry.Valid(symmetry.Then(n, m)) {
				t.Errorf("%d and then %d is %d", n, m, symmetry.Then(n, m))
			}
			for k := range symmetry.Count {
				if symmetry.Then(symmetry.Then(n, m), k) != symmetry.Then(n, symmetry.Then(m, k)) {
					t.Errorf("%d, %d and then %d", n, m, k)
				}
			}
		}
	}
}

// P9.2: Vec of Then is Vec of the first symmetry and then of the second one; Vec of Inverse leads back.
func TestVecOfThen(t *testing.T) {
	for _, a := range vectors() {
		for n := range symmetry.Count {
			if symmetry.Vec(symmetry.Inverse(n), symmetry.Vec(n, a)) != a || symmetry.Vec(n, symmetry.Vec(symmetry.Inverse(n), a)) != a {
				t.Errorf("%v is not undone behind %d", a, n)
			}
			for m := range symmetry.Count {
				if b := symmetry.Vec(symmetry.Then(n, m), a); b != symmetry.Vec(m, symmetry.Vec(n, a)) {
					t.Errorf("%d and then %d map %v to %v", n, m, a, b)
				}
			}
		}
	}
}

// P9.2: rings and boxes behind Then are those behind the first symmetry and then behind the second one.
func TestRingsAndBoxesOfThen(t *testing.T) {
	for n := range symmetry.Count {
		for m := range symmetry.Count {
			both := symmetry.Then(n, m)
			for _, b := range boxes() {
				if symmetry.Box(both, b) != symmetry.Box(m, symmetry.Box(n, b)) {
					t.Errorf("%d and then %d map %v to %v", n, m, b, symmetry.Box(both, b))
				}
			}
			for _, r := range append(convexRings(), otherRings()...) {
				once, _ := symmetry.Ring(both, r)
				first, _ := symmetry.Ring(n, r)
				if twice, e := symmetry.Ring(m, first); e != api.OK || !slices.Equal(once, twice) {
					t.Errorf("%d and then %d map %v to %v, not %v, %v", n, m, r, once, twice, e)
				}
			}
		}
	}
}

// P9.2: a vector with different coordinates tells any two symmetries apart; so do the two unit vectors together.
func TestDifferentSymmetries(t *testing.T) {
	for n := range symmetry.Count {
		for m := range n {
			if symmetry.Vec(n, v(3, 1)) == symmetry.Vec(m, v(3, 1)) {
				t.Errorf("%d and %d map (3, 1) alike", n, m)
			}
			if symmetry.Vec(n, v(1, 0)) == symmetry.Vec(m, v(1, 0)) && symmetry.Vec(n, v(0, 1)) == symmetry.Vec(m, v(0, 1)) {
				t.Errorf("%d and %d map the unit vectors alike", n, m)
			}
		}
	}
}

// P9.3: Vec is additive; it keeps the scalar product, the maximum norm, and the cross product, but for its sign if it mirrors.
func TestLinear(t *testing.T) {
	for n := range symmetry.Count {
		sign := 1
		if n >= 4 {
			sign = -1
		}
		for _, a := range fewVectors() {
			mapped := symmetry.Vec(n, a)
			if vec.MaxNorm(mapped) != vec.MaxNorm(a) || symmetry.Vec(n, vec.Neg(a)) != vec.Neg(mapped) {
				t.Errorf("%d maps %v to %v", n, a, mapped)
			}
			for _, b := range fewVectors() {
				other := symmetry.Vec(n, b)
				if symmetry.Vec(n, vec.Add(a, b)) != vec.Add(mapped, other) {
					t.Errorf("%d maps the sum of %v and %v to %v", n, a, b, symmetry.Vec(n, vec.Add(a, b)))
				}
				if vec.Dot(mapped, other) != vec.Dot(a, b) || vec.Cross(mapped, other) != sign*vec.Cross(a, b) {
					t.Errorf("%d maps %v and %v, with other products, to %v and %v", n, a, b, mapped, other)
				}
			}
		}
	}
}

// P9.4: the mapped ring is valid and canonical, has the same area, and is convex exactly if the ring is; the inverse leads back.
func TestMappedRings(t *testing.T) {
	counts := map[bool]int{}
	for _, r := range rings() {
		b, _ := ring.Box(r)
		counts[ring.Convex(r)]++
		for n := range symmetry.Count {
			m, e := symmetry.Ring(n, r)
			if e != api.OK || !ring.Valid(m) || !ring.Same(m, ring.Canonical(m)) || ring.Area2(m) != ring.Area2(r) || ring.Convex(m) != ring.Convex(r) {
				t.Errorf("%d maps %v to %v, %v", n, r, m, e)
			}
			if c, ok := ring.Box(m); !ok || c != symmetry.Box(n, b) {
				t.Errorf("%d maps %v to %v, with the box %v", n, r, m, c)
			}
			if back, e := symmetry.Ring(symmetry.Inverse(n), m); e != api.OK || !ring.Same(back, ring.Canonical(r)) {
				t.Errorf("%d maps %v to %v, and back to %v, %v", n, r, m, back, e)
			}
		}
	}
	if min(counts[true], counts[false]) < 15 {
		t.Errorf("only these rings were tried: %v", counts)
	}
}

// placed has points of and around a ring: its vertices, what is near them, and what is between some of them, twice as large.
func placed(r api.Ring) []api.Vec {
	l := []api.Vec{v(4*limit, 0), v(0, -4*limit-2), v(most, most), v(least, least), v(0, most)}
	for i, a := range r {
		b, c := r[(i+1)%len(r)], r[(i+2)%len(r)]
		l = append(l, v(2*a.X, 2*a.Y), v(2*a.X+1, 2*a.Y), v(2*a.X, 2*a.Y-1), v(2*a.X-2, 2*a.Y+2), v(a.X+b.X, a.Y+b.Y), v(a.X+c.X, a.Y+c.Y), v(b.X+c.X, a.Y+b.Y))
	}
	return l
}

// halfOf returns the point with half of the coordinates of a vector, in lowest terms.
func halfOf(a api.Vec) api.Point {
	if a.X%2 == 0 && a.Y%2 == 0 {
		return api.Point{X: a.X / 2, Y: a.Y / 2, Den: 1}
	}
	return api.Point{X: a.X, Y: a.Y, Den: 2}
}

// P9.4: a mapped point, an integer or a rational one, lies at the same place of the mapped ring: inside, on the boundary, or outside.
func TestMappedPoints(t *testing.T) {
	var counts, halves [3]int
	for _, r := range rings() {
		for n := range symmetry.Count {
			m, _ := symmetry.Ring(n, r)
			for i, a := range placed(r) {
				// Of the points, others are tried for each symmetry, as there are many; the great ones always are.
				if i > 4 && len(r) > 20 && (i+n)%3 > 0 {
					continue
				}
				p, half := v(a.X/2, a.Y/2), halfOf(a)
				place, halfPlace := ring.Where(r, p), ring.WherePoint(r, half)
				counts[place]++
				halves[halfPlace] += half.Den - 1
				if other := ring.Where(m, symmetry.Vec(n, p)); other != place {
					t.Errorf("%d maps %v, which is at %d of %v, to %d", n, p, place, r, other)
				}
				if other := ring.WherePoint(m, halfOf(symmetry.Vec(n, a))); other != halfPlace {
					t.Errorf("%d maps %v, which is at %d of %v, to %d", n, half, halfPlace, r, other)
				}
			}
		}
	}
	if slices.Min(append(counts[:], halves[:]...)) < 1000 {
		t.Errorf("only these places were tried: %v, and %v", counts, halves)
	}
}

// P9.5: the grain behind Then is that behind the first symmetry and then behind the second one.
func TestGrainOfThen(t *testing.T) {
	for n := range symmetry.Count {
		for m := range symmetry.Count {
			for _, g := range append(notDirections(), api.GrainX, api.GrainY) {
				if h := symmetry.Grain(symmetry.Then(n, m), g); h != symmetry.Grain(m, symmetry.Grain(n, g)) {
					t.Errorf("%d, behind %d and then %d: %d", g, n, m, h)
				}
			}
		}
		// A part with its grain along an axis keeps it exactly if a vector along the axis stays along it.
		if isKept := symmetry.Vec(n, v(1, 0)).Y == 0; (symmetry.Grain(n, api.GrainX) == api.GrainX) != isKept {
			t.Errorf("the grain behind %d: %d", n, symmetry.Grain(n, api.GrainX))
		}
	}
}

// everyResult returns the results of all functions but Ring.
func everyResult(n, m int, a api.Vec, b api.Box) [8]any {
	return [8]any{symmetry.Valid(n), symmetry.Vec(n, a), symmetry.Box(n, b), symmetry.Then(n, m), symmetry.Inverse(n), symmetry.Odd(n), symmetry.Mirrors(n), symmetry.Grain(n, m)}
}

// P1: nothing panics, and the same calls lead to the same results, for numbers, vectors and boxes of all sizes.
func TestSameResults(t *testing.T) {
	l := boxes()
	for i, n := range someNumbers() {
		for j, m := range append(someNumbers(), notDirections()...) {
			for k, a := range fewVectors() {
				b := l[(i+j+k)%len(l)]
				if r := everyResult(n, m, a, b); everyResult(n, m, a, b) != r {
					t.Errorf("%d, %d, %v and %v: not %v again", n, m, a, b, r)
				}
			}
		}
	}
}

// P1: Ring changes neither its list, nor what lies behind it, whatever this is, and the result is the same again.
func TestRingsAreKept(t *testing.T) {
	for _, r := range append(rings(), notRings()...) {
		kept := append(slices.Clone(r), v(77, -77), v(-77, 77))
		given := slices.Clone(kept)
		for _, n := range someNumbers() {
			first, e := symmetry.Ring(n, given[:len(r)])
			if again, eAgain := symmetry.Ring(n, given[:len(r)]); eAgain != e || !slices.Equal(again, first) {
				t.Errorf("%d maps %v to %v, %v, and to %v, %v", n, r, first, e, again, eAgain)
			}
			if !slices.Equal(given, kept) {
				t.Fatalf("%d changes %v to %v", n, kept, given)
			}
		}
	}
}

// P1: a mapped ring shares no memory with the ring, even if this is canonical already and nothing is changed, nor with another result.
func TestRingsAreNew(t *testing.T) {
	for _, r := range rings() {
		for n := range symmetry.Count {
			kept := append(ring.Canonical(r), v(77, -77), v(-77, 77))
			given := slices.Clone(kept)
			size := len(given) - 2
			mapped, _ := symmetry.Ring(n, given[:size])
			other, _ := symmetry.Ring(n, given[:size])
			want := slices.Clone(other)
			for i := range mapped {
				mapped[i] = v(99, 99)
			}
			_ = append(mapped, v(98, 98))
			if !slices.Equal(given, kept) || !slices.Equal(other, want) {
				t.Fatalf("%v is changed to %v, or %v, by a change of what %d maps it to", kept, given, other, n)
			}
		}
	}
}
