package ring_test

import (
	"math/rand"
	"slices"
	"testing"

	"fretsaw/api"
	"fretsaw/ring"
)

// P8.1: known canonical rings: the lowest vertex is the first one, and of the lowest ones the leftmost.
func TestKnownCanonical(t *testing.T) {
	for _, c := range []struct{ r, want api.Ring }{
		{list(4, 4, 0, 4, 0, 0, 4, 0), list(0, 0, 4, 0, 4, 4, 0, 4)}, {list(4, 0, 4, 4, 0, 4, 0, 0), list(0, 0, 4, 0, 4, 4, 0, 4)}, {list(0, 0, 4, 0, 4, 4, 0, 4), list(0, 0, 4, 0, 4, 4, 0, 4)}, {list(0, 4, 5, -1, 7, 3), list(5, -1, 7, 3, 0, 4)}, {list(-3, 1, 2, 0, 5, 5), list(2, 0, 5, 5, -3, 1)},
		{list(3, 3, 4, 0, 5, 3, 4, 2), list(4, 0, 5, 3, 4, 2, 3, 3)}, {list(3, -4, 4, 4, 2, 0, 0, 4, 1, -4, 2, -1), list(1, -4, 2, -1, 3, -4, 4, 4, 2, 0, 0, 4)}, {list(2000, 2000, -2000, 2000, -2000, -2000, 2000, -2000), list(-2000, -2000, 2000, -2000, 2000, 2000, -2000, 2000)},
	} {
		if r := ring.Canonical(c.r); !slices.Equal(r, c.want) {
			t.Errorf("%v is made canonical as %v", c.r, r)
		}
	}
}

// P8.1: a canonical ring begins with a vertex that no other one is less than, and goes on as the ring does.
func TestCanonical(t *testing.T) {
	for _, r := range rings() {
		first := 0
		for i, a := range r {
			if a.Y < r[first].Y || a.Y == r[first].Y && a.X < r[first].X {
				first = i
			}
		}
		if c := ring.Canonical(r); !slices.Equal(c, turned(r, first)) {
			t.Errorf("%v is made canonical as %v", r, c)
		}
	}
}

// P8.1: the vertices of any ring in the opposite order, also of one that is not valid.
func TestReverse(t *testing.T) {
	for _, c := range []struct{ r, want api.Ring }{
		{nil, nil}, {api.Ring{}, nil}, {list(3, 4), list(3, 4)}, {list(3, 4, 5, 6), list(5, 6, 3, 4)}, {list(0, 0, 3, 0, 0, 3), list(0, 3, 3, 0, 0, 0)}, {list(1, 1, 1, 1, 2, 2), list(2, 2, 1, 1, 1, 1)}, {list(least, 0, 0, most, 7, 7, 8, 8), list(8, 8, 7, 7, 0, most, least, 0)},
	} {
		if r := ring.Reverse(c.r); !slices.Equal(r, c.want) {
			t.Errorf("%v is reversed as %v", c.r, r)
		}
	}
	for _, r := range append(rings(), notRings()...) {
		if l := ring.Reverse(r); !slices.Equal(l, backwards(r)) || !slices.Equal(ring.Reverse(l), r) {
			t.Errorf("%v is reversed as %v", r, l)
		}
	}
}

// P8.1: moves up to the limit in each direction, and one beyond it; vectors of all sizes beyond.
func TestMove(t *testing.T) {
	for i, r := range rings() {
		lo, hi := around(r)
		left, down := -limit-(lo.X+1), -limit-(lo.Y+1)
		right, up := limit-(hi.X-1), limit-(hi.Y-1)
		for _, by := range []api.Vec{{}, v(left, down), v(right, up), v(left, up), v(right, down), v((left+right)/2, down), v(left, (up+down)/2)} {
			if m, e := ring.Move(r, by); e != api.OK || !slices.Equal(m, moved(r, by)) {
				t.Errorf("%v, moved by %v: %v, %v", r, by, m, e)
			}
		}
		beyond := []api.Vec{v(left-1, down), v(left, down-1), v(right+1, up), v(right, up+1), v(left-1, up), v(0, 4001), v(-4001, 0)}
		for _, n := range []int{1<<32 - 1, 1 << 32, -1 << 32, 1 << 62, least, least + 1, least + 2000, most, most - 1} {
			beyond = append(beyond, v(n, 0), v(0, n), v(n, n), v(right, n), v(n, down))
		}
		for _, by := range beyond {
			if i%9 != 0 && max(by.X, -by.X, by.Y, -by.Y) > 4001 {
				continue
			}
			if m, e := ring.Move(r, by); e != api.ErrRange || len(m) != 0 {
				t.Errorf("%v, moved by %v: %v, %v", r, by, m, e)
			}
		}
	}
	from, to := list(-2000, -2000, -1999, -2000, -2000, -1999), list(1999, 1999, 2000, 1999, 1999, 2000)
	if m, e := ring.Move(from, v(3999, 3999)); e != api.OK || !slices.Equal(m, to) {
		t.Errorf("%v, moved across: %v, %v", from, m, e)
	}
	if m, e := ring.Move(to, v(-3999, -3999)); e != api.OK || !slices.Equal(m, from) {
		t.Errorf("%v, moved across: %v, %v", to, m, e)
	}
}

// bowlWithPoints returns the ring of 40 vertices on a parabola, four times as large, with n further points on its last edge.
func bowlWithPoints(n int) []api.Vec {
	var l []api.Vec
	for i := -20; i < 20; i++ {
		l = append(l, v(80*i, 4*i*i))
	}
	// The last edge leads from (1520, 1444) to (-1600, 1600), by steps of (-20, 1).
	for i := range n {
		l = append(l, v(1520-20*(i%155+1), 1444+i%155+1))
	}
	return l
}

// P8.1: known lists that are cleaned: points to be removed at all places, spikes, the opposite direction, and lists of up to 200 points.
func TestKnownClean(t *testing.T) {
	square, triangle := list(0, 0, 4, 0, 4, 4, 0, 4), list(0, 0, 3, 0, 0, 3)
	long := slices.Concat(triangle, slices.Repeat(list(0, 3), 197))
	for _, c := range []struct{ l, want api.Ring }{
		{square, square}, {turned(square, 2), square}, {backwards(square), square}, {backwards(turned(square, 1)), square}, {list(4, 4, 4, 0, 2, 0, 0, 0, 0, 4), square}, {list(2, 0, 4, 0, 4, 2, 4, 4, 2, 4, 0, 4, 0, 2, 0, 0), square}, {list(1, 0, 3, 0, 4, 0, 4, 1, 4, 3, 4, 4, 0, 4, 0, 0), square},
		{list(0, 0, 0, 0, 3, 0, 3, 0, 0, 3, 0, 0), triangle}, {list(0, 0, 9, 0, 3, 0, 0, 3), triangle}, {list(0, 0, -5, 0, 3, 0, 0, 3), triangle}, {list(3, 0, 0, 3, 0, 9, 0, 0), triangle}, {list(9, 0, 3, 0, 0, 3, 0, 0), triangle}, {list(3, 0, 0, 3, 0, 0, 9, 0), triangle}, {list(0, 0, 3, 0, 7, 7, 3, 0, 0, 3), triangle}, {list(0, 0, 3, 0, 7, 7, 9, 9, 7, 7, 3, 0, 0, 3), triangle}, {list(0, 0, 3, 0, 0, 3, -2, 5, 0, 3), triangle},
		{list(0, 0, 3, 0, 0, 3, 0, 0, 0, 0), triangle}, {list(0, 0, 0, 3, 3, 0), triangle}, {list(0, 3, 0, 3, 3, 0, 1, 0, 2, 0, 0, 0, 0, 2, 0, 1), triangle}, {list(0, 0, 1, 1, 2, 2, 1, 1, 0, 0, 3, 0, 0, 3), triangle}, {list(7, 9, 0, 0, 3, 0, 0, 3, 0, 0), triangle},
		{list(0, 1, 4, 4, 0, 0), list(0, 0, 4, 4, 0, 1)}, {list(2, 1, 4, 4, 4, 0, 0, 0), list(0, 0, 4, 0, 4, 4, 2, 1)}, {list(-2000, -2000, 0, 0, 2000, 2000, -2000, 2000), list(-2000, -2000, 2000, 2000, -2000, 2000)},
		{long, triangle}, {backwards(long), triangle}, {turned(long, 100), triangle}, {bowl(40), bowl(40)}, {comb(40), comb(40)}, {slices.Concat(comb(40), comb(40)[39:]), comb(40)}, {bowlWithPoints(160), turned(bowlWithPoints(0), 20)}, {backwards(bowlWithPoints(99)), turned(bowlWithPoints(0), 20)},
	} {
		if r, e := ring.Clean(c.l); e != api.OK || !slices.Equal(r, c.want) {
			t.Errorf("%v is cleaned to %v, %v", c.l, r, e)
		}
	}
}

// P8.1: lists that are too long come first, then coordinates beyond the limit, then results that are not valid.
func TestCleanErrors(t *testing.T) {
	for _, l := range []api.Ring{nil, {}, list(5, 5), list(5, 5, 5, 5), list(1, 2, 3, 4), list(3, 3, 3, 3, 3, 3), list(0, 0, 1, 1, 2, 2), list(0, 0, 1, 1, 0, 0, 1, 1), list(2, 2, 0, 0, 1, 1, 0, 0, 5, 5), list(0, 0, 4, 0, 0, 0, 0, 4), list(0, 0, 3, 0, 0, 3, 3, 0), make(api.Ring, 200),
		list(0, 0, 4, 4, 4, 0, 0, 4), list(0, 0, 4, 0, 4, 2, 2, 0, 0, 2), list(0, 0, 4, 0, 2, 2, 4, 4, 0, 4, 2, 2), list(0, 4, -2, -3, 4, 1, -4, 1, 2, -3), list(0, 0, 4, 0, 0, 4, 0, 0, 4, 0, 0, 4), list(0, 0, 9, 0, 0, 9, 1, 1, 9, 1, 1, 9), bowl(41), comb(41), backwards(comb(41)), comb(200), list(-2000, -2000, -2000, -2000)} {
		if r, e := ring.Clean(l); e != api.ErrShape || len(r) != 0 {
			t.Errorf("%v is cleaned to %v, %v", l, r, e)
		}
	}
	for _, n := range []int{2001, -2001, 1 << 32, -1 << 62, least, most} {
		for _, l := range []api.Ring{list(n, 0), list(0, n), list(0, 0, n, 0, 0, 3), list(0, 0, 3, 0, 0, n), list(0, 0, 3, 0, 3, 0, 0, 3, 0, n), append(make(api.Ring, 199), v(0, n)), append(list(n, 0), make(api.Ring, 199)...)} {
			if r, e := ring.Clean(l); e != api.ErrRange || len(r) != 0 {
				t.Errorf("%v is cleaned to %v, %v", l, r, e)
			}
		}
	}
	for _, l := range []api.Ring{make(api.Ring, 201), make(api.Ring, 202), make(api.Ring, 10000), comb(201), slices.Concat(list(0, 0, 3, 0, 0, 3), slices.Repeat(list(0, 3), 198)), append(make(api.Ring, 200), v(2001, 0)), slices.Repeat(list(most, least), 201)} {
		if r, e := ring.Clean(l); e != api.ErrLimit || len(r) != 0 {
			t.Errorf("%d points are cleaned to %v, %v", len(l), r, e)
		}
	}
}

// cleaned returns what is left of a list, point by point, by the chapter.
func cleaned(l api.Ring) api.Ring {
	for i, a := range l {
		ahead, behind := l[(i+len(l)-1)%len(l)], next(l, i)
		if a == behind || (a.X-ahead.X)*(behind.Y-a.Y) == (a.Y-ahead.Y)*(behind.X-a.X) {
			return cleaned(slices.Concat(l[:i], l[i+1:]))
		}
	}
	if trapezoids(l) < 0 {
		return backwards(l)
	}
	return l
}

// P8.1: all lists of 3 to 5 points of a small grid, and random ones of up to 12, against the model.
func TestClean(t *testing.T) {
	source := rand.New(rand.NewSource(880))
	lists := smallLists()
	for range 20000 {
		var l api.Ring
		for range 5 + source.Intn(8) {
			l = append(l, v(source.Intn(4)-2, source.Intn(3)-2))
		}
		lists = append(lists, l)
	}
	counts := map[int]int{}
	for _, l := range lists {
		want := cleaned(l)
		r, e := ring.Clean(l)
		if !isRing(want) {
			counts[0]++
			if e != api.ErrShape || len(r) != 0 {
				t.Errorf("%v is cleaned to %v, %v", l, r, e)
			}
			continue
		}
		counts[len(l)-len(want)+1]++
		first := slices.IndexFunc(want, func(a api.Vec) bool { return len(r) > 0 && a == r[0] })
		if e != api.OK || first < 0 || !slices.Equal(r, turned(want, first)) || !slices.Equal(r, ring.Canonical(r)) {
			t.Errorf("%v is cleaned to %v, %v", l, r, e)
		}
	}
	if min(counts[0], counts[1], counts[2], counts[3]) < 1000 {
		t.Errorf("only these numbers of points were removed: %v", counts)
	}
}
