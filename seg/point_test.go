package seg_test

import (
	"math/big"
	"math/rand"
	"slices"
	"testing"

	"fretsaw/api"
	"fretsaw/seg"
	"fretsaw/vec"
)

// pt returns the rational point x / den, y / den.
func pt(x, y, den int) api.Point { return api.Point{X: x, Y: y, Den: den} }

// P7.1: an integer point is a rational one with Den 1, whatever its size is.
func TestPointOf(t *testing.T) {
	for _, a := range append(outside(), v(0, 0), v(7, 8), v(-3, 2), v(4000, -4000)) {
		if seg.PointOf(a) != pt(a.X, a.Y, 1) {
			t.Errorf("%v is %v", a, seg.PointOf(a))
		}
	}
}

// P7.1: known rational points: in lowest terms and not, denominators that are not permitted, and numerators at the limit and beyond it.
func TestKnownRationalPoints(t *testing.T) {
	for _, c := range []struct {
		p  api.Point
		ok bool
	}{
		{pt(0, 0, 1), true}, {pt(1, 2, 3), true}, {pt(-1, -2, 3), true}, {pt(3, 4, 2), true}, {pt(4, 3, 2), true}, {pt(6, 10, 15), true}, {pt(0, 1, 7), true}, {pt(1, 0, 7), true}, {pt(4000, -4000, 1), true}, {pt(-4000, 4000, 1), true},
		{pt(0, 0, 0), false}, {pt(1, 2, 0), false}, {pt(1, 0, -1), false}, {pt(1, 2, -3), false}, {pt(0, 0, -1), false}, {pt(0, 0, least), false}, {pt(1, 1, least), false}, {pt(1, 1, most), false}, {pt(least, most, most), false},
		{pt(0, 0, 2), false}, {pt(2, 4, 2), false}, {pt(-2, -4, 2), false}, {pt(0, 3, 9), false}, {pt(-3, 0, 9), false}, {pt(30, 42, 6), false}, {pt(5, 10, 5), false}, {pt(0, 0, maxDen), false}, {pt(2, 4, maxDen), false},
		{pt(1, 0, maxDen), true}, {pt(0, -1, maxDen), true}, {pt(1, 0, maxDen+1), false}, {pt(1, 0, maxDen-1), true}, {pt(1, 1, maxDen+3), false},
		{pt(4001, 0, 1), false}, {pt(0, 4001, 1), false}, {pt(-4001, 0, 1), false}, {pt(0, -4001, 1), false}, {pt(least, 0, 1), false}, {pt(0, most, 1), false}, {pt(least, least, 1), false}, {pt(4000, most, 3), false},
		{pt(12000, 1, 3), true}, {pt(12001, 1, 3), false}, {pt(12001, 3, 3), false}, {pt(-12000, 1, 3), true}, {pt(-12001, 1, 3), false}, {pt(1, 12000, 3), true}, {pt(1, 12001, 3), false}, {pt(1, -12000, 3), true}, {pt(1, -12001, 3), false},
		{pt(4000*maxDen, 1, maxDen), true}, {pt(-4000*maxDen, 1, maxDen), true}, {pt(1, -4000*maxDen, maxDen), true}, {pt(4000*maxDen+1, 1, maxDen), false}, {pt(1, 4000*maxDen+1, maxDen), false}, {pt(1, -4000*maxDen-1, maxDen), false}, {pt(4000*maxDen-1, 1-4000*maxDen, maxDen), true}, {pt(4000*maxDen, 4000*maxDen, maxDen), false},
		{pt(1, 1, 1<<52), false}, {pt(1, 1, 1<<62), false}, {pt(3, 1, 1<<62+1), false}, {pt(1, 1, -1<<52), false}, {pt(1, 2, -1<<52), false}, {pt(1, 1, 3-1<<60), false},
	} {
		if seg.ValidPoint(c.p) != c.ok {
			t.Errorf("%v: %v", c.p, !c.ok)
		}
	}
}

// samplePoints has rational points of all sizes, of which most are valid.
func samplePoints() []api.Point {
	source := rand.New(rand.NewSource(77))
	l := []api.Point{pt(0, 0, 1), pt(1, 1, 2), pt(0, 1, 3), pt(-1, 1, 2), pt(-1, 1, 3), pt(0, -1, 2), pt(0, -1, 1), pt(-1, 0, 2), pt(-1, 0, 3), pt(5, 5, 3), pt(-5, -5, 3), pt(-5, -5, 4)}
	for _, den := range []int{1, 2, 3, maxDen, maxDen - 1} {
		for _, far := range []int{2000, 4000} {
			for _, n := range []int{far*den - 1, far * den, far*den + 1} {
				l = append(l, pt(n, 1, den), pt(-n, 1, den), pt(1, n, den), pt(1, -n, den), pt(n, n, den), pt(n, -n, den))
			}
		}
	}
	for i := range 300 {
		den := 1 + source.Intn([]int{6, 100, maxDen}[i%3])
		at := func() int { return source.Intn(4000*den+1) - 2000*den }
		if i%4 == 0 {
			// Points that differ by little: those with great denominators beside 7 / 2.
			at = func() int { return 7*den/2 + source.Intn(3) - 1 }
		}
		l = append(l, pt(at(), at(), den))
	}
	return l
}

// isSample reports whether a rational point is valid, with numerators of at most limit Den, by whole numbers of any size.
func isSample(p api.Point, limit int64) bool {
	den := big.NewInt(int64(p.Den))
	if p.Den < 1 || p.Den > maxDen {
		return false
	}
	bound := new(big.Int).Mul(den, big.NewInt(limit))
	common := den
	for _, n := range []int{p.X, p.Y} {
		size := new(big.Int).Abs(big.NewInt(int64(n)))
		if size.Cmp(bound) > 0 {
			return false
		}
		common = new(big.Int).GCD(nil, nil, common, size)
	}
	return common.Cmp(big.NewInt(1)) == 0
}

// P7.1: random points and those at the bounds, against whole numbers of any size.
func TestValidPoint(t *testing.T) {
	counts := map[bool]int{}
	for _, p := range samplePoints() {
		want := isSample(p, 4000)
		counts[want]++
		if seg.ValidPoint(p) != want {
			t.Errorf("%v: %v", p, !want)
		}
	}
	if counts[true] < 200 || counts[false] < 50 {
		t.Errorf("only these points were tried: %v", counts)
	}
}

// P7.1: known comparisons: by Y ahead of X, with different denominators and signs, just within and just beyond 2000 Den, and with points that are not valid.
func TestKnownComparisons(t *testing.T) {
	for _, c := range []struct {
		p, q api.Point
		want int
	}{
		{pt(1, 1, 2), pt(1, 1, 2), 0}, {pt(0, 0, 1), pt(0, 0, 1), 0}, {pt(1, 1, 2), pt(0, 1, 3), 1}, {pt(9, 1, 3), pt(0, 1, 2), -1}, {pt(-1, 1, 2), pt(-1, 1, 3), 1}, {pt(-1, 0, 2), pt(-1, 0, 3), -1}, {pt(1, 0, 2), pt(1, 0, 3), 1}, {pt(0, -1, 2), pt(0, -1, 1), 1}, {pt(0, -1, 2), pt(0, 1, 3), -1}, {pt(1, 3, 2), pt(3, 3, 2), -1}, {pt(-1, 3, 2), pt(-3, 3, 2), 1},
		{pt(1, 1, maxDen), pt(1, 1, maxDen-1), -1}, {pt(2000*maxDen-1, 1, maxDen), pt(2000*(maxDen-1)-1, 1, maxDen-1), -1}, {pt(1, 2000*maxDen-1, maxDen), pt(1, 2000*(maxDen-1)-1, maxDen-1), 1}, {pt(1, 1-2000*maxDen, maxDen), pt(1, 1-2000*(maxDen-1), maxDen-1), -1},
		{pt(2000, 0, 1), pt(0, 0, 1), 1}, {pt(-2000, 0, 1), pt(0, 0, 1), -1}, {pt(0, 2000, 1), pt(0, 0, 1), 1}, {pt(0, -2000, 1), pt(0, 0, 1), -1}, {pt(2001, 0, 1), pt(0, 0, 1), 0}, {pt(-2001, 0, 1), pt(0, 0, 1), 0}, {pt(0, 2001, 1), pt(0, 0, 1), 0}, {pt(0, -2001, 1), pt(0, 0, 1), 0},
		{pt(6000, 1, 3), pt(0, 0, 1), 1}, {pt(6001, 1, 3), pt(0, 0, 1), 0}, {pt(-6001, 1, 3), pt(0, 0, 1), 0}, {pt(1, 6000, 3), pt(0, 0, 1), 1}, {pt(1, 6001, 3), pt(0, 0, 1), 0}, {pt(1, -6001, 3), pt(0, 0, 1), 0}, {pt(1, 2000*maxDen, maxDen), pt(1, 0, 1), 1}, {pt(1, 2000*maxDen+1, maxDen), pt(1, 0, 1), 0}, {pt(2000*maxDen+1, 1, maxDen), pt(1, 0, 1), 0},
		{pt(2, 4, 2), pt(0, 0, 1), 0}, {pt(1, 1, 0), pt(0, 0, 1), 0}, {pt(1, 1, -1), pt(0, 0, 1), 0}, {pt(1, 1, maxDen+1), pt(0, 0, 1), 0}, {pt(4001, 4001, 1), pt(0, 0, 1), 0}, {pt(1, 1, 1<<62), pt(0, 0, 1), 0}, {pt(least, least, 1), pt(0, 0, 1), 0}, {pt(2, 4, 2), pt(4, 2, 2), 0},
	} {
		if n := seg.ComparePoints(c.p, c.q); n != c.want {
			t.Errorf("%v and %v: %d", c.p, c.q, n)
		}
		if n := seg.ComparePoints(c.q, c.p); n != -c.want {
			t.Errorf("%v and %v: %d", c.q, c.p, n)
		}
	}
}

// P7.1 and P7.6: all pairs of points, against fractions; only equal points are equal for the order.
func TestComparePoints(t *testing.T) {
	counts := map[int]int{}
	others := 0
	for _, p := range samplePoints() {
		for _, q := range samplePoints() {
			if !isSample(p, 2000) || !isSample(q, 2000) {
				others++
				if seg.ComparePoints(p, q) != 0 {
					t.Errorf("%v and %v are compared", p, q)
				}
				continue
			}
			want := rat(p.Y, p.Den).Cmp(rat(q.Y, q.Den))
			if want == 0 {
				want = rat(p.X, p.Den).Cmp(rat(q.X, q.Den))
			}
			counts[want]++
			if n := seg.ComparePoints(p, q); n != want || n != -seg.ComparePoints(q, p) || (n == 0) != (p == q) {
				t.Errorf("%v and %v: %d", p, q, n)
			}
		}
	}
	if counts[-1] < 10000 || counts[1] < 10000 || counts[0] < 200 || others < 10000 {
		t.Errorf("only these pairs were tried: %v, and %d others", counts, others)
	}
}

// P7.6: what is sorted is in order, each point with all others, so the order is transitive.
func TestTransitive(t *testing.T) {
	l := slices.DeleteFunc(samplePoints(), func(p api.Point) bool { return !isSample(p, 2000) })
	slices.SortFunc(l, seg.ComparePoints)
	for i, p := range l {
		for _, q := range l[i:] {
			if seg.ComparePoints(p, q) > 0 {
				t.Errorf("%v is ahead of %v", p, q)
			}
		}
	}
}

// P7.6: the order of integer points is that of vectors.
func TestOrderOfVectors(t *testing.T) {
	l := append(grid(-2, -2, 2, 2), v(2000, -2000), v(-2000, 2000), v(2000, 2000), v(-2000, -2000), v(1999, 2000), v(2000, 1999), v(0, 2000), v(-2000, 0))
	for _, a := range l {
		for _, b := range l {
			if n := seg.ComparePoints(seg.PointOf(a), seg.PointOf(b)); n != vec.Compare(a, b) {
				t.Errorf("%v and %v: %d", a, b, n)
			}
		}
	}
}

// P7.1: valid points with Den 1 are whole, up to the limit; others are not, and have a zero point.
func TestWhole(t *testing.T) {
	for _, a := range append(grid(-3, -3, 3, 3), v(4000, -4000), v(-4000, 3999), v(2001, 0)) {
		if whole, ok := seg.Whole(seg.PointOf(a)); !ok || whole != a {
			t.Errorf("%v: %v, %v", a, whole, ok)
		}
	}
	for _, p := range []api.Point{{}, pt(3, -2, 2), pt(1, 1, 3), pt(4, 2, 2), pt(0, 0, 2), pt(6, 6, 3), pt(1, 2, 0), pt(1, 2, -1), pt(4001, 0, 1), pt(0, -4001, 1), pt(least, most, 1), pt(1, 0, maxDen), pt(1, 1, maxDen+1), pt(3, 4, most), pt(3, 4, least)} {
		if whole, ok := seg.Whole(p); ok || whole != (api.Vec{}) {
			t.Errorf("%v: %v, %v", p, whole, ok)
		}
	}
}
