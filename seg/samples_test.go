package seg_test

import (
	"math"
	"math/big"
	"math/rand"
	"testing"

	"fretsaw/api"
	"fretsaw/seg"
)

const (
	least  = math.MinInt
	most   = math.MaxInt
	limit  = 4000
	maxDen = 1 << 27
)

// v returns the point with two coordinates.
func v(x, y int) api.Vec { return api.Vec{X: x, Y: y} }

// s returns the segment between two points.
func s(ax, ay, bx, by int) api.Seg { return api.Seg{A: v(ax, ay), B: v(bx, by)} }

// grid returns all points with coordinates from lo to hi.
func grid(loX, loY, hiX, hiY int) []api.Vec {
	var l []api.Vec
	for y := loY; y <= hiY; y++ {
		for x := loX; x <= hiX; x++ {
			l = append(l, v(x, y))
		}
	}
	return l
}

// between returns all segments between points of a list, in both directions, and those with equal ends.
func between(points []api.Vec) []api.Seg {
	var l []api.Seg
	for _, a := range points {
		for _, b := range points {
			l = append(l, api.Seg{A: a, B: b})
		}
	}
	return l
}

// pair is a pair of segments.
type pair struct{ s, t api.Seg }

// smallPairs has all pairs of segments in a small grid.
func smallPairs() []pair {
	var l []pair
	segments := between(grid(-1, 0, 2, 2))
	for _, a := range segments {
		for _, b := range segments {
			l = append(l, pair{a, b})
		}
	}
	return l
}

// limitPairs has pairs of segments between points at the limit.
func limitPairs() []pair {
	var points []api.Vec
	for _, x := range []int{-limit, 0, limit} {
		for _, y := range []int{-limit, 0, limit} {
			points = append(points, v(x, y))
		}
	}
	points = append(points, v(limit-1, limit), v(limit, limit-1), v(1-limit, -limit), v(-limit, 1-limit), v(1-limit, limit-1))
	var l []pair
	segments := between(points)
	for i, a := range segments {
		for j, b := range segments {
			if (i+j)%2 == 0 || i == j {
				l = append(l, pair{a, b})
			}
		}
	}
	return l
}

// randomPairs has pairs of segments, the same ones in each run: between points of all sizes, of which few meet in an end, on one line, and from an end to a point of another one.
func randomPairs() []pair {
	source := rand.New(rand.NewSource(7))
	var l []pair
	for i := range 6000 {
		size := []int{6, 40, limit}[i%3]
		at := func() api.Vec { return v(source.Intn(2*size+1)-size, source.Intn(2*size+1)-size) }
		a, b, c, d := at(), at(), at(), at()
		switch i % 4 {
		case 0:
			p, by := v(a.X/20, a.Y/20), v(b.X/20, b.Y/20)
			on := func() api.Vec {
				n := source.Intn(19) - 9
				return v(p.X+n*by.X, p.Y+n*by.Y)
			}
			a, b, c, d = on(), on(), on(), on()
		case 1:
			a, b = v(2*(a.X/2), 2*(a.Y/2)), v(2*(b.X/2), 2*(b.Y/2))
			c = v((a.X+b.X)/2, (a.Y+b.Y)/2)
		}
		l = append(l, pair{api.Seg{A: a, B: b}, api.Seg{A: c, B: d}})
	}
	return l
}

// allPairs has pairs of valid segments of all sizes.
func allPairs() []pair {
	return append(append(smallPairs(), limitPairs()...), randomPairs()...)
}

// invalid has segments that are not valid, also by one beyond the limit.
func invalid() []api.Seg {
	l := []api.Seg{s(least, least, most, most), s(most, least, most, least), s(least, 0, least+1, 0)}
	for _, n := range []int{limit + 1, -limit - 1, 1 << 31, -1 << 32, least, most, 1 << 62} {
		l = append(l, s(n, 0, 0, 0), s(0, n, 0, 0), s(0, 0, n, 0), s(0, 0, 0, n), s(n, 0, n, 0), s(0, n, 0, n), s(-2, n, 2, n), s(limit, limit, 0, n))
	}
	return l
}

// outside has points beyond the limit.
func outside() []api.Vec {
	var l []api.Vec
	for _, n := range []int{limit + 1, -limit - 1, 1 << 32, -1 << 32, 1 << 62, least, least + 1, most} {
		l = append(l, v(n, 0), v(0, n), v(n, n), v(limit, n), v(n, -limit))
	}
	return l
}

// rat returns a fraction.
func rat(num, den int) *big.Rat { return big.NewRat(int64(num), int64(den)) }

// spot is a point of any size, by its exact coordinates.
type spot struct{ x, y *big.Rat }

func (p spot) isEqual(q spot) bool { return p.x.Cmp(q.x) == 0 && p.y.Cmp(q.y) == 0 }

func (p spot) isVec(a api.Vec) bool { return p.isEqual(spot{rat(a.X, 1), rat(a.Y, 1)}) }

// isPoint reports whether a rational point is this one, in lowest terms.
func (p spot) isPoint(q api.Point) bool {
	if q.Den < 1 || !p.isEqual(spot{rat(q.X, q.Den), rat(q.Y, q.Den)}) {
		return false
	}
	common := new(big.Int).GCD(nil, nil, big.NewInt(int64(max(q.X, -q.X))), big.NewInt(int64(q.Den)))
	return common.GCD(nil, nil, common, big.NewInt(int64(max(q.Y, -q.Y)))).IsInt64() && common.Int64() == 1
}

// interval has the numbers from lo to hi; it is empty if lo is greater.
type interval struct{ lo, hi *big.Rat }

// clip keeps the numbers n for which from + n by is not negative.
func (i *interval) clip(from, by int) {
	if by == 0 && from >= 0 {
		return
	}
	if by == 0 {
		i.lo, i.hi = rat(1, 1), rat(0, 1)
		return
	}
	n := rat(-from, by)
	if by > 0 && n.Cmp(i.lo) > 0 {
		i.lo = n
	}
	if by < 0 && n.Cmp(i.hi) < 0 {
		i.hi = n
	}
}

// common returns the ends of what two valid segments have in common, in any order, and false if this is nothing. It goes along
// the first segment, and keeps what lies on the line of the second one, ahead of neither end of this: a way that has nothing
// to do with turns.
func common(a, b api.Seg) (spot, spot, bool) {
	dx, dy := a.B.X-a.A.X, a.B.Y-a.A.Y
	ex, ey := b.B.X-b.A.X, b.B.Y-b.A.Y
	fx, fy := a.A.X-b.A.X, a.A.Y-b.A.Y
	i := &interval{rat(0, 1), rat(1, 1)}
	i.clip(fx*ey-fy*ex, dx*ey-dy*ex)
	i.clip(fy*ex-fx*ey, dy*ex-dx*ey)
	i.clip(fx*ex+fy*ey, dx*ex+dy*ey)
	i.clip(ex*ex+ey*ey-fx*ex-fy*ey, -dx*ex-dy*ey)
	if ex == 0 && ey == 0 {
		i.clip(fx, dx)
		i.clip(-fx, -dx)
		i.clip(fy, dy)
		i.clip(-fy, -dy)
	}
	if i.lo.Cmp(i.hi) > 0 {
		return spot{}, spot{}, false
	}
	at := func(n *big.Rat) spot {
		x, y := new(big.Rat).Mul(n, rat(dx, 1)), new(big.Rat).Mul(n, rat(dy, 1))
		return spot{x.Add(x, rat(a.A.X, 1)), y.Add(y, rat(a.A.Y, 1))}
	}
	return at(i.lo), at(i.hi), true
}

// kindOf returns how two segments meet, by the ends of what they have in common.
func kindOf(p pair, from, to spot, ok bool) int {
	switch {
	case !ok:
		return seg.None
	case !from.isEqual(to):
		return seg.Overlap
	case from.isVec(p.s.A) || from.isVec(p.s.B) || from.isVec(p.t.A) || from.isVec(p.t.B):
		return seg.Touch
	}
	return seg.Cross
}

// The models and the samples are what they are called.
func TestSamples(t *testing.T) {
	for _, c := range []struct {
		p        pair
		from, to spot
		ok       bool
	}{
		{pair{s(0, 0, 2, 2), s(0, 1, 1, 0)}, spot{rat(1, 2), rat(1, 2)}, spot{rat(1, 2), rat(1, 2)}, true},
		{pair{s(0, 0, 4, 0), s(6, 0, 2, 0)}, spot{rat(2, 1), rat(0, 1)}, spot{rat(4, 1), rat(0, 1)}, true},
		{pair{s(3, 3, 3, 3), s(3, 3, 3, 3)}, spot{rat(3, 1), rat(3, 1)}, spot{rat(3, 1), rat(3, 1)}, true},
		{pair{s(0, 0, 4, 0), s(3, 1, 3, 1)}, spot{}, spot{}, false},
		{pair{s(0, 0, 4, 0), s(5, 0, 5, 0)}, spot{}, spot{}, false},
		{pair{s(0, 0, 4, 0), s(0, 1, 4, 1)}, spot{}, spot{}, false},
	} {
		from, to, ok := common(c.p.s, c.p.t)
		if ok != c.ok || ok && (!from.isEqual(c.from) || !to.isEqual(c.to)) {
			t.Errorf("%v: %v, %v", c.p, from, to)
		}
	}
	for name, l := range map[string][]pair{"small": smallPairs(), "limit": limitPairs(), "random": randomPairs()} {
		counts := map[int]int{}
		for _, p := range l {
			for _, a := range []api.Vec{p.s.A, p.s.B, p.t.A, p.t.B} {
				if max(a.X, -a.X, a.Y, -a.Y) > limit {
					t.Errorf("%s pairs: %v is beyond the limit", name, a)
				}
			}
			from, to, ok := common(p.s, p.t)
			counts[kindOf(p, from, to, ok)]++
		}
		if min(counts[seg.None], counts[seg.Touch], counts[seg.Cross], counts[seg.Overlap]) < 200 {
			t.Errorf("%s pairs: %v", name, counts)
		}
	}
	for _, a := range outside() {
		if a.X >= -limit && a.X <= limit && a.Y >= -limit && a.Y <= limit {
			t.Errorf("%v is not outside", a)
		}
	}
}
