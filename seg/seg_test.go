package seg_test

import (
	"testing"

	"fretsaw/api"
	"fretsaw/seg"
)

// P7.1: the kinds of meeting have the numbers of the chapter, and the limit is its limit.
func TestNumbers(t *testing.T) {
	if [4]int{seg.None, seg.Touch, seg.Cross, seg.Overlap} != [4]int{0, 1, 2, 3} || seg.Limit != 4000 {
		t.Error(seg.None, seg.Touch, seg.Cross, seg.Overlap, seg.Limit)
	}
}

// P7.1: segments at the limit, and by one beyond it in each coordinate.
func TestValid(t *testing.T) {
	for _, p := range allPairs() {
		if !seg.Valid(p.s) || !seg.Valid(p.t) {
			t.Errorf("%v is not valid", p)
		}
	}
	for _, a := range []api.Seg{{}, s(4000, 4000, 4000, 4000), s(-4000, -4000, 4000, 4000), s(4000, -4000, 0, 0), s(0, 0, -4000, 4000)} {
		if !seg.Valid(a) {
			t.Errorf("%v is not valid", a)
		}
	}
	for _, a := range invalid() {
		if seg.Valid(a) {
			t.Errorf("%v is valid", a)
		}
	}
}

// P7.1: known points on segments, beside them, and behind their ends.
func TestKnownPoints(t *testing.T) {
	for _, c := range []struct {
		s    api.Seg
		p    api.Vec
		on   bool
		side int
	}{
		{s(0, 0, 4, 2), v(0, 0), true, 0}, {s(0, 0, 4, 2), v(2, 1), true, 0}, {s(0, 0, 4, 2), v(4, 2), true, 0}, {s(0, 0, 4, 2), v(6, 3), false, 0}, {s(0, 0, 4, 2), v(-2, -1), false, 0},
		{s(0, 0, 4, 2), v(1, 1), false, 1}, {s(0, 0, 4, 2), v(1, 0), false, -1}, {s(4, 2, 0, 0), v(1, 1), false, -1}, {s(4, 2, 0, 0), v(1, 0), false, 1}, {s(0, 0, 4, 2), v(9, 9), false, 1}, {s(0, 0, 4, 2), v(-9, -9), false, -1},
		{s(3, -1, 3, 5), v(3, 5), true, 0}, {s(3, -1, 3, 5), v(3, 0), true, 0}, {s(3, -1, 3, 5), v(3, 6), false, 0}, {s(3, -1, 3, 5), v(3, -2), false, 0}, {s(3, -1, 3, 5), v(2, 0), false, 1}, {s(3, -1, 3, 5), v(4, 0), false, -1},
		{s(-1, 7, 5, 7), v(5, 7), true, 0}, {s(-1, 7, 5, 7), v(-2, 7), false, 0}, {s(-1, 7, 5, 7), v(2, 8), false, 1}, {s(-1, 7, 5, 7), v(2, 6), false, -1},
		{s(1, 2, 1, 2), v(1, 2), true, 0}, {s(1, 2, 1, 2), v(1, 3), false, 0}, {s(1, 2, 1, 2), v(0, 2), false, 0}, {s(1, 2, 1, 2), v(-1, -2), false, 0},
		{s(-4000, -4000, 4000, 4000), v(4000, 4000), true, 0}, {s(-4000, -4000, 4000, 4000), v(3999, 3999), true, 0}, {s(-4000, -4000, 4000, 4000), v(3999, 4000), false, 1}, {s(-4000, -4000, 4000, 4000), v(4000, 3999), false, -1}, {s(-4000, -4000, 4000, 3999), v(0, 0), false, 1}, {s(-4000, 4000, 4000, -4000), v(4000, 4000), false, 1}, {s(4000, -4000, -4000, 4000), v(4000, 4000), false, -1},
	} {
		if on, side := seg.On(c.s, c.p), seg.Side(c.s, c.p); on != c.on || side != c.side {
			t.Errorf("%v and %v: %v, %d", c.s, c.p, on, side)
		}
	}
}

// P7.1: every point of a grid, and every segment in it, against the points n / m of the way along the segment.
func TestOnAndSide(t *testing.T) {
	points := grid(-2, -2, 3, 2)
	for _, a := range between(grid(-1, -1, 2, 2)) {
		for _, p := range points {
			x, y := a.B.X-a.A.X, a.B.Y-a.A.Y
			on := false
			for m := 1; m <= 3; m++ {
				for n := 0; n <= m; n++ {
					on = on || m*p.X == m*a.A.X+n*x && m*p.Y == m*a.A.Y+n*y
				}
			}
			side := min(1, max(-1, x*(p.Y-a.A.Y)-y*(p.X-a.A.X)))
			if seg.On(a, p) != on || seg.Side(a, p) != side {
				t.Errorf("%v and %v: %v, %d", a, p, !on, seg.Side(a, p))
			}
		}
	}
}

// P7.1: points beyond the limit lie on no segment, and on no side, not even by wrapped arithmetic.
func TestPointsOutside(t *testing.T) {
	segments := append(between(grid(-1, -1, 1, 1)), s(-4000, -4000, 4000, 4000), s(-4000, 0, 4000, 0), s(0, 4000, 0, -4000), s(4000, 4000, 4000, 3999), s(4000, -4000, 4000, -4000))
	for _, a := range segments {
		for _, p := range outside() {
			if seg.On(a, p) || seg.Side(a, p) != 0 {
				t.Errorf("%v and %v: %v, %d", a, p, seg.On(a, p), seg.Side(a, p))
			}
		}
	}
}

// P7.1: for a segment that is not valid, as either argument, there are zero values.
func TestInvalid(t *testing.T) {
	valid := append(between(grid(-1, -1, 1, 1)), s(-4000, -4000, 4000, 4000), s(-4000, 4000, 4000, -4000), s(4000, -4000, 4000, 4000))
	for _, a := range invalid() {
		for _, p := range append(outside(), a.A, a.B, v(0, 0), v(1, 0), v(0, 1), v(-1, 2), v(4000, 4000), v(-4000, 3999)) {
			if seg.On(a, p) || seg.Side(a, p) != 0 {
				t.Errorf("%v and %v: %v, %d", a, p, seg.On(a, p), seg.Side(a, p))
			}
		}
		for _, b := range append(valid, invalid()...) {
			for _, p := range []pair{{a, b}, {b, a}} {
				at, isAt := seg.At(p.s, p.t)
				share, isShare := seg.Share(p.s, p.t)
				if seg.Meet(p.s, p.t) != 0 || at != (api.Point{}) || isAt || share != (api.Seg{}) || isShare {
					t.Errorf("%v: %d, %v, %v, %v, %v", p, seg.Meet(p.s, p.t), at, isAt, share, isShare)
				}
			}
		}
	}
}

// meeting is how two segments meet, with the only point that they have in common, or with the segment.
type meeting struct {
	p     pair
	kind  int
	at    api.Point
	share api.Seg
}

// isRight reports whether Meet, At and Share find a meeting.
func (m meeting) isRight() bool {
	at, isAt := seg.At(m.p.s, m.p.t)
	share, isShare := seg.Share(m.p.s, m.p.t)
	return seg.Meet(m.p.s, m.p.t) == m.kind && at == m.at && isAt == (m.kind == seg.Touch || m.kind == seg.Cross) && share == m.share && isShare == (m.kind == seg.Overlap)
}

// P7.1: known meetings of segments on one line: apart, touching at an end, overlapping in part, one within the other, equal, and with their ends exchanged.
func TestMeetingsOnOneLine(t *testing.T) {
	none := func(a, b api.Seg) meeting { return meeting{p: pair{a, b}} }
	touch := func(a, b api.Seg, p api.Vec) meeting {
		return meeting{pair{a, b}, seg.Touch, api.Point{X: p.X, Y: p.Y, Den: 1}, api.Seg{}}
	}
	overlap := func(a, b, share api.Seg) meeting {
		return meeting{pair{a, b}, seg.Overlap, api.Point{}, share}
	}
	for _, m := range []meeting{
		none(s(0, 0, 4, 0), s(5, 0, 6, 0)), none(s(0, 0, 4, 0), s(-1, 0, -3, 0)), none(s(0, 0, 0, 4), s(0, 5, 0, 6)), none(s(0, 0, 2, 1), s(4, 2, 6, 3)),
		none(s(0, 0, 4, 0), s(5, 0, 5, 0)), none(s(1, 1, 1, 1), s(2, 2, 2, 2)), none(s(1, 1, 1, 1), s(1, 2, 1, 2)), none(s(-1, -1, -1, -1), s(0, 0, 2, 2)),
		touch(s(0, 0, 4, 0), s(4, 0, 6, 0), v(4, 0)), touch(s(4, 0, 0, 0), s(4, 0, 6, 0), v(4, 0)), touch(s(0, 0, 4, 0), s(-3, 0, 0, 0), v(0, 0)), touch(s(2, 1, 4, 2), s(0, 0, 2, 1), v(2, 1)), touch(s(3, -2, 3, 5), s(3, 5, 3, 6), v(3, 5)),
		touch(s(1, 1, 1, 1), s(0, 0, 2, 2), v(1, 1)), touch(s(0, 0, 2, 2), s(2, 2, 2, 2), v(2, 2)), touch(s(0, 0, 0, 0), s(0, 0, 0, 0), v(0, 0)), touch(s(-3, 4, -3, 4), s(-3, 4, -3, 4), v(-3, 4)), touch(s(4000, 4000, 4000, 4000), s(4000, 4000, 4000, -4000), v(4000, 4000)),
		overlap(s(0, 0, 4, 0), s(6, 0, 2, 0), s(2, 0, 4, 0)), overlap(s(4, 0, 0, 0), s(2, 0, 6, 0), s(2, 0, 4, 0)), overlap(s(0, 0, 0, 4), s(0, 3, 0, 9), s(0, 3, 0, 4)), overlap(s(4, 0, 0, 4), s(-2, 6, 1, 3), s(1, 3, 0, 4)),
		overlap(s(0, 0, 3, 3), s(1, 1, 2, 2), s(1, 1, 2, 2)), overlap(s(2, 2, 1, 1), s(0, 0, 3, 3), s(1, 1, 2, 2)), overlap(s(0, 0, 3, 3), s(0, 0, 2, 2), s(0, 0, 2, 2)), overlap(s(0, 0, 3, 3), s(3, 3, 2, 2), s(2, 2, 3, 3)),
		overlap(s(1, 2, 5, 0), s(1, 2, 5, 0), s(5, 0, 1, 2)), overlap(s(1, 2, 5, 0), s(5, 0, 1, 2), s(5, 0, 1, 2)), overlap(s(3, 7, -3, 7), s(-3, 7, 3, 7), s(-3, 7, 3, 7)), overlap(s(-4000, -4000, 4000, 4000), s(4000, 4000, -4000, -4000), s(-4000, -4000, 4000, 4000)), overlap(s(-4000, 4000, 4000, 4000), s(3999, 4000, 4000, 4000), s(3999, 4000, 4000, 4000)),
	} {
		if !m.isRight() {
			t.Errorf("%v is not found", m)
		}
	}
}

// P7.1: known meetings of segments on different lines: parallel, meeting in an end of one or both, crossing at an integer point and at others, and missing each other.
func TestMeetingsOfLines(t *testing.T) {
	none := func(a, b api.Seg) meeting { return meeting{p: pair{a, b}} }
	touch := func(a, b api.Seg, p api.Vec) meeting {
		return meeting{pair{a, b}, seg.Touch, api.Point{X: p.X, Y: p.Y, Den: 1}, api.Seg{}}
	}
	cross := func(a, b api.Seg, x, y, den int) meeting {
		return meeting{pair{a, b}, seg.Cross, api.Point{X: x, Y: y, Den: den}, api.Seg{}}
	}
	for _, m := range []meeting{
		none(s(0, 0, 4, 0), s(0, 1, 4, 1)), none(s(0, 0, 4, 2), s(1, 1, 5, 3)), none(s(0, 0, 0, 9), s(1, 8, 1, -8)), none(s(0, 0, 4, 0), s(2, 1, 2, 3)), none(s(0, 0, 4, 0), s(5, -1, 5, 1)), none(s(0, 0, 4, 0), s(5, 3, 5, 9)), none(s(0, 0, 4, 0), s(2, 1, 2, 1)), none(s(0, 0, 3, 1), s(1, 0, 1, 0)),
		none(s(-4000, -4000, 4000, 3999), s(0, 0, -4000, 4000)), none(s(-4000, -4000, 4000, 4000), s(-4000, -3999, 3999, 4000)), none(s(-4000, -4000, 4000, 4000), s(3999, 4000, 3999, 4000)),
		touch(s(0, 0, 4, 0), s(2, 0, 2, 3), v(2, 0)), touch(s(0, 0, 4, 0), s(2, -3, 2, 0), v(2, 0)), touch(s(0, 0, 4, 2), s(2, 1, 0, 5), v(2, 1)), touch(s(0, 0, 4, 0), s(4, 0, 4, 4), v(4, 0)), touch(s(0, 0, 4, 0), s(-1, 3, 0, 0), v(0, 0)), touch(s(0, 0, 4, 0), s(0, 0, 4, 1), v(0, 0)), touch(s(-4000, -4000, 4000, 4000), s(0, 0, 4000, -4000), v(0, 0)), touch(s(4000, 4000, -4000, 4000), s(4000, 4000, 4000, -4000), v(4000, 4000)),
		cross(s(0, 0, 2, 2), s(0, 1, 1, 0), 1, 1, 2), cross(s(0, 0, 2, 2), s(0, 2, 2, 0), 1, 1, 1), cross(s(0, 0, 4, 0), s(1, -3, 1, 5), 1, 0, 1), cross(s(0, 0, 3, 1), s(0, 1, 3, 0), 3, 1, 2), cross(s(0, 0, 5, 1), s(0, 1, 3, 0), 15, 3, 8), cross(s(-1, -1, 0, 1), s(-1, 0, 0, 0), -1, 0, 2), cross(s(0, 0, -5, -1), s(0, -1, -3, 0), -15, -3, 8), cross(s(1, 0, 0, 7), s(0, 1, 3, 3), 18, 35, 23),
		cross(s(-4000, -4000, 4000, 4000), s(4000, -4000, -4000, 4000), 0, 0, 1), cross(s(-4000, -4000, 4000, 4000), s(4000, -4000, -4000, 3999), -4000, -4000, 15999), cross(s(-4000, -3999, 4000, 4000), s(4000, -4000, -4000, 3999), -4000, 0, 7999),
	} {
		if !m.isRight() {
			at, _ := seg.At(m.p.s, m.p.t)
			t.Errorf("%v is not found, but %v", m, at)
		}
	}
}

// P7.1: all pairs of segments in a small grid, at the limit, and random ones, against an arithmetic of fractions.
func TestMeetings(t *testing.T) {
	for _, p := range allPairs() {
		from, to, ok := common(p.s, p.t)
		kind := kindOf(p, from, to, ok)
		at, isAt := seg.At(p.s, p.t)
		share, isShare := seg.Share(p.s, p.t)
		right := seg.Meet(p.s, p.t) == kind
		switch kind {
		case seg.None:
			right = right && !isAt && at == api.Point{} && !isShare && share == api.Seg{}
		case seg.Touch, seg.Cross:
			right = right && isAt && from.isPoint(at) && !isShare && share == api.Seg{}
		case seg.Overlap:
			ends := from.isVec(share.A) && to.isVec(share.B) || from.isVec(share.B) && to.isVec(share.A)
			ascending := share.A.Y < share.B.Y || share.A.Y == share.B.Y && share.A.X < share.B.X
			right = right && !isAt && at == api.Point{} && isShare && ends && ascending
		}
		if !right {
			t.Errorf("%v: %d, %v, %v, not %d from %v to %v", p, seg.Meet(p.s, p.t), at, share, kind, from, to)
		}
	}
}
