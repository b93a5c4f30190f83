package arc_test

import (
	"math/big"
	"math/rand"
	"slices"
	"testing"

	"fretsaw/api"
	"fretsaw/arc"
)

// flattened returns the chain of a valid arc.
func flattened(t *testing.T, a api.Arc, tolerance int) []api.Vec {
	t.Helper()
	l, e := arc.Flatten(a, tolerance)
	if e != api.OK {
		t.Fatalf("%v with the tolerance %d: %v", a, tolerance, e)
	}
	return l
}

// P11.2: a chain begins with From and ends with To, and no two consecutive points are equal.
func TestEnds(t *testing.T) {
	for i, a := range arcs() {
		for _, tolerance := range tolerances(i) {
			l := flattened(t, a, tolerance)
			if len(l) < 2 || l[0] != a.From || l[len(l)-1] != a.To {
				t.Errorf("the chain of %v with the tolerance %d: %v", a, tolerance, l)
			}
			if short := slices.Compact(slices.Clone(l)); len(short) != len(l) {
				t.Errorf("the chain of %v with the tolerance %d has equal points: %v", a, tolerance, l)
			}
		}
	}
}

// isBeyond reports whether the root of a is at least the root of b plus 1, by the squares: a - b - 1 is at least twice the root of b.
func isBeyond(a, b int) bool {
	n := a - b - 1
	return n >= 0 && n*n >= 4*b
}

// P11.3: the distance of every point from the center differs from the radius by less than 1.
func TestPoints(t *testing.T) {
	if !isBeyond(25, 16) || isBeyond(24, 16) || !isBeyond(26, 16) || isBeyond(16, 25) || isBeyond(5, 2) || !isBeyond(6, 2) {
		t.Error("the comparison of squares")
	}
	for i, a := range arcs() {
		radius := minus(a.From, a.Center)
		for _, tolerance := range tolerances(i) {
			for _, p := range flattened(t, a, tolerance) {
				p = minus(p, a.Center)
				if isBeyond(dot(p, p), dot(radius, radius)) || isBeyond(dot(radius, radius), dot(p, p)) {
					t.Errorf("a point %v from the center in the chain of %v with the tolerance %d", p, a, tolerance)
				}
			}
		}
	}
}

// isFar reports whether some point of the segment from p to q is nearer to (0, 0) than the radius less the tolerance.
func isFar(p, q api.Vec, radius2, tolerance int) bool {
	d, c := minus(q, p), cross(p, q)
	if dot(p, d) >= 0 || dot(q, d) <= 0 {
		// The nearest point is an end.
		end := min(dot(p, p), dot(q, q))
		n := radius2 - tolerance*tolerance - end
		return n > 0 && n*n > 4*tolerance*tolerance*end
	}
	// The distance of the line is |c| divided by the root of length2, and so nearer if n is greater than 2 tolerance |c| times that root.
	length2 := dot(d, d)
	n := big.NewInt(int64((radius2-tolerance*tolerance)*length2 - c*c))
	left := new(big.Int).Mul(n, n)
	right := new(big.Int).Mul(big.NewInt(int64(4*tolerance*tolerance*length2)), big.NewInt(int64(c*c)))
	return n.Sign() > 0 && left.Cmp(right) > 0
}

// P11.4: with a tolerance of at least 2, the distance of every point of every segment differs from the radius by at most the
// tolerance. A segment is nowhere farther from the center than its ends are, which differ by less than 1.
func TestTolerance(t *testing.T) {
	if isFar(v(5, 0), v(0, 5), 25, 2) || !isFar(v(5, 0), v(0, 5), 25, 1) || !isFar(v(10, 0), v(-6, 8), 100, 4) || isFar(v(10, 0), v(-6, 8), 100, 6) || isFar(v(6, 8), v(6, -8), 100, 4) || !isFar(v(6, 8), v(6, -8), 100, 3) {
		t.Error("the distance of a segment")
	}
	near := 0
	for i, a := range arcs() {
		p := minus(a.From, a.Center)
		for _, tolerance := range tolerances(i)[1:] {
			l := moved(flattened(t, a, tolerance), v(-a.Center.X, -a.Center.Y))
			for k := range len(l) - 1 {
				if isFar(l[k], l[k+1], dot(p, p), tolerance) {
					t.Errorf("%v and %v are too far from the circle for %v with the tolerance %d", l[k], l[k+1], a, tolerance)
				}
				if isFar(l[k], l[k+1], dot(p, p), tolerance-1) {
					near++
				}
			}
		}
	}
	if near < 1000 {
		t.Errorf("only %d segments need their tolerance", near)
	}
}

// P11.5: each point lies counterclockwise of the one before it, by at most 90 degrees, and clockwise for clockwise arcs.
func TestOrder(t *testing.T) {
	for i, a := range arcs() {
		for _, tolerance := range tolerances(i) {
			l := moved(flattened(t, a, tolerance), v(-a.Center.X, -a.Center.Y))
			for k := range len(l) - 1 {
				turn := cross(l[k], l[k+1])
				if a.Clockwise {
					turn = -turn
				}
				if turn <= 0 || dot(l[k], l[k+1]) < 0 {
					t.Errorf("%v is followed by %v in the chain of %v with the tolerance %d", l[k], l[k+1], a, tolerance)
				}
			}
		}
	}
}

// P11.5: the chain goes around as far as the arc does, and not once more: the first quadrant, in which From is turned to the first
// axis, is entered again by no point but To.
func TestOrderOnce(t *testing.T) {
	for i, a := range arcs() {
		if a.Clockwise {
			continue
		}
		p := minus(a.From, a.Center)
		for _, tolerance := range tolerances(i) {
			last := 0
			l := flattened(t, a, tolerance)
			for _, b := range l[1 : len(l)-1] {
				b = minus(b, a.Center)
				n := len(corners(p, b))
				if n < last || n == 5 && cross(p, b) == 0 {
					t.Errorf("%v of the chain of %v with the tolerance %d: %v", b, a, tolerance, l)
				}
				last = n
			}
			if q := minus(a.To, a.Center); len(corners(p, q)) < last {
				t.Errorf("%v ends the chain of %v with the tolerance %d: %v", q, a, tolerance, l)
			}
		}
	}
}

// P11.6: the chain of the opposite arc is the reverse chain.
func TestOpposite(t *testing.T) {
	for i, a := range arcs() {
		for _, tolerance := range tolerances(i) {
			l := flattened(t, a, tolerance)
			if other := flattened(t, opposite(a), tolerance); !slices.Equal(other, reversed(l)) {
				t.Errorf("the chain of %v with the tolerance %d: %v, and of the opposite arc: %v", a, tolerance, l, other)
			}
		}
	}
}

// P11.6: moving an arc moves its chain, up to the limits of coordinates; beyond them, the arc is not valid.
func TestMoved(t *testing.T) {
	source := rand.New(rand.NewSource(116))
	counts := map[bool]int{}
	for i, a := range arcs() {
		left, right := min(a.From.X, a.To.X, a.Center.X), max(a.From.X, a.To.X, a.Center.X)
		low, high := min(a.From.Y, a.To.Y, a.Center.Y), max(a.From.Y, a.To.Y, a.Center.Y)
		tolerance := 1 + i%arc.MaxTolerance
		l := flattened(t, a, tolerance)
		for _, by := range []api.Vec{v(limit-right, limit-high), v(-limit-left, -limit-low), v(limit-right, -limit-low), v(source.Intn(101)-50, source.Intn(101)-50), v(limit-right+1, 0), v(0, -limit-low-1)} {
			b := api.Arc{From: plus(a.From, by), To: plus(a.To, by), Center: plus(a.Center, by), Clockwise: a.Clockwise}
			counts[isArc(b)]++
			if arc.Valid(b) != isArc(b) {
				t.Errorf("%v, moved by %v, is valid: %v", a, by, !isArc(b))
			}
			if other, e := arc.Flatten(b, tolerance); isArc(b) && (e != api.OK || !slices.Equal(other, moved(l, by))) {
				t.Errorf("the chain of %v with the tolerance %d: %v, and moved by %v: %v, %v", a, tolerance, l, by, other, e)
			}
		}
	}
	if min(counts[false], counts[true]) < 1000 {
		t.Errorf("only these were tried: %v", counts)
	}
}

// isPartOf reports whether a list consists of some of the points of another one, in their order.
func isPartOf(few, many []api.Vec) bool {
	for _, p := range few {
		i := slices.Index(many, p)
		if i < 0 {
			return false
		}
		many = many[i+1:]
	}
	return true
}

// P11.7: with a greater tolerance, the chain consists of some of the points of the chain with the lesser one.
func TestCoarser(t *testing.T) {
	coarser := 0
	for i, a := range arcs() {
		if i%3 != 0 {
			continue
		}
		fine := flattened(t, a, 1)
		for tolerance := 2; tolerance <= arc.MaxTolerance; tolerance += 1 + tolerance/4 {
			coarse := flattened(t, a, tolerance)
			if !isPartOf(coarse, fine) {
				t.Errorf("the chain of %v with the tolerance %d: %v, and with a lesser one: %v", a, tolerance, coarse, fine)
			}
			if len(coarse) < len(fine) {
				coarser++
			}
			fine = coarse
		}
	}
	if coarser < 1000 {
		t.Errorf("only %d chains are shorter than others", coarser)
	}
}

// P1: nothing panics, whatever the arguments are, and the same calls lead to the same results.
func TestSameResults(t *testing.T) {
	numbers := append(farNumbers(), 0, 1, -1, 2, 50, 51, 1999)
	var tried []api.Arc
	for i, a := range arcs() {
		if i%50 == 0 {
			tried = append(tried, a)
		}
	}
	for i, a := range append(tried, brokenArcs()...) {
		for k, n := range numbers {
			for _, b := range []api.Arc{a, changed(a, (i+k)%6, n)} {
				l, e := arc.Flatten(b, n)
				again, eAgain := arc.Flatten(b, n)
				if e != eAgain || !slices.Equal(l, again) || arc.Valid(b) != arc.Valid(b) {
					t.Errorf("%v with the tolerance %d: %v, %v, and then %v, %v", b, n, l, e, again, eAgain)
				}
			}
			radius := numbers[(i+k)%len(numbers)]
			r, e := arc.Circle(a.Center, radius, n)
			if again, eAgain := arc.Circle(a.Center, radius, n); e != eAgain || !slices.Equal(r, again) {
				t.Errorf("the circle around %v with the radius %d and the tolerance %d: %v, %v, and then %v, %v", a.Center, radius, n, r, e, again, eAgain)
			}
		}
	}
	for _, n := range numbers {
		if arc.Root(n) != arc.Root(n) {
			t.Errorf("the root of %d differs", n)
		}
	}
}

// P1: the functions end and do not panic for circles with extreme numbers in any place.
func TestExtremeCircles(t *testing.T) {
	numbers := append(farNumbers(), 0, 1, 5)
	for _, x := range numbers {
		for _, y := range numbers {
			for _, radius := range numbers {
				for _, tolerance := range []int{least, -1, 0, 1, 50, 51, most} {
					isCircle := isArc(api.Arc{From: v(x+radius, y), To: v(x+radius, y), Center: v(x, y)}) && radius > 0
					if _, e := arc.Circle(v(x, y), radius, tolerance); (e == api.ErrArg) == isCircle {
						t.Errorf("the circle around %d, %d with the radius %d and the tolerance %d: %v", x, y, radius, tolerance, e)
					}
				}
			}
		}
	}
}

// P1: chains and circles are new lists; a change of one changes no other one.
func TestResultsAreNew(t *testing.T) {
	for i, a := range arcs() {
		if i%10 != 0 {
			continue
		}
		first, _ := arc.Flatten(a, 1)
		second, _ := arc.Flatten(a, 1)
		firstCircle, _ := arc.Circle(a.Center, 1+i%300, 10)
		secondCircle, _ := arc.Circle(a.Center, 1+i%300, 10)
		want, wantCircle := slices.Clone(second), slices.Clone(secondCircle)
		for k := range first {
			first[k] = v(99, 99)
		}
		for k := range firstCircle {
			firstCircle[k] = v(99, 99)
		}
		_ = append(first, v(98, 98))
		_ = append(firstCircle, v(98, 98))
		if !slices.Equal(second, want) || !slices.Equal(secondCircle, wantCircle) {
			t.Fatalf("the chain %v of %v, or the circle %v, is changed by a change of another one", second, a, secondCircle)
		}
	}
}
