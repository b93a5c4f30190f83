package seg_test

import (
	"testing"

	"fretsaw/api"
	"fretsaw/seg"
)

// everyMeeting has what Meet, At and Share find.
type everyMeeting struct {
	kind    int
	at      api.Point
	isAt    bool
	share   api.Seg
	isShare bool
}

func meetingOf(a, b api.Seg) everyMeeting {
	at, isAt := seg.At(a, b)
	share, isShare := seg.Share(a, b)
	return everyMeeting{seg.Meet(a, b), at, isAt, share, isShare}
}

// turned returns the segment with its ends exchanged.
func turned(a api.Seg) api.Seg { return api.Seg{A: a.B, B: a.A} }

// P7.2: the order of the segments, and that of their ends, do not matter.
func TestSymmetry(t *testing.T) {
	for _, p := range allPairs() {
		want := meetingOf(p.s, p.t)
		for _, other := range []pair{{p.t, p.s}, {turned(p.s), p.t}, {p.s, turned(p.t)}, {turned(p.s), turned(p.t)}, {p.t, turned(p.s)}, {turned(p.t), p.s}, {turned(p.t), turned(p.s)}} {
			if m := meetingOf(other.s, other.t); m != want {
				t.Errorf("%v: %v, but %v: %v", p, want, other, m)
			}
		}
	}
}

// plus returns a point that is moved by a vector.
func plus(a, by api.Vec) api.Vec { return v(a.X+by.X, a.Y+by.Y) }

// moved returns a segment that is moved by a vector.
func moved(a api.Seg, by api.Vec) api.Seg { return api.Seg{A: plus(a.A, by), B: plus(a.B, by)} }

// P7.2: moving both segments, within the limit and up to it, moves what they have in common.
func TestMoves(t *testing.T) {
	counts := map[int]int{}
	far := 0
	for i, p := range append(smallPairs(), randomPairs()...) {
		moves := []api.Vec{v(1, 0), v(0, -1), v(-7, 5), v(limit-2, limit-2), v(1-limit, -limit), v(limit-2, -limit), v(1-limit, limit-2), v(limit/2, -limit/2)}
		for _, by := range []api.Vec{moves[i%8], moves[(i+3)%8]} {
			a, b := moved(p.s, by), moved(p.t, by)
			if !seg.Valid(a) || !seg.Valid(b) {
				continue
			}
			want := meetingOf(p.s, p.t)
			counts[want.kind]++
			if by.X > 100 {
				far++
			}
			if want.isAt {
				want.at.X += by.X * want.at.Den
				want.at.Y += by.Y * want.at.Den
			}
			if want.isShare {
				want.share = moved(want.share, by)
			}
			if m := meetingOf(a, b); m != want {
				t.Errorf("%v, moved by %v: %v, not %v", p, by, m, want)
			}
		}
	}
	if len(counts) != 4 || min(counts[0], counts[1], counts[2], counts[3]) < 500 || far < 1000 {
		t.Errorf("only these moves were tried: %v, %d far ones", counts, far)
	}
}

// P7.3: two segments cross exactly if the ends of each lie strictly on different sides of the other.
func TestCrossing(t *testing.T) {
	for _, p := range allPairs() {
		parted := func(a, b api.Seg) bool { return seg.Side(a, b.A)*seg.Side(a, b.B) == -1 }
		if (seg.Meet(p.s, p.t) == seg.Cross) != (parted(p.s, p.t) && parted(p.t, p.s)) {
			t.Errorf("%v: %d", p, seg.Meet(p.s, p.t))
		}
	}
}

// P7.4: the point of At is valid; an integer point lies on both segments exactly if it is that point, or lies on the segment of Share.
func TestCommonPoints(t *testing.T) {
	near := grid(-2, -1, 3, 3)
	small, onBoth := len(smallPairs()), 0
	for i, p := range allPairs() {
		at, isAt := seg.At(p.s, p.t)
		share, isShare := seg.Share(p.s, p.t)
		if isAt && !seg.ValidPoint(at) {
			t.Errorf("%v: %v is not valid", p, at)
		}
		points := []api.Vec{p.s.A, p.s.B, p.t.A, p.t.B, v((p.s.A.X+p.s.B.X)/2, (p.s.A.Y+p.s.B.Y)/2), near[i%len(near)]}
		if i < small {
			points = near
		}
		if isAt {
			points = append(points, v(at.X/at.Den, at.Y/at.Den))
		}
		for _, a := range points {
			isCommon := isAt && at == seg.PointOf(a) || isShare && seg.On(share, a)
			if isCommon {
				onBoth++
			}
			if isCommon != (seg.On(p.s, a) && seg.On(p.t, a)) {
				t.Errorf("%v and %v: %v, %v", p, a, at, share)
			}
		}
	}
	if onBoth < 5000 {
		t.Errorf("only %d points on both segments were tried", onBoth)
	}
}

// P7.5: the segment of Share lies on both segments, has two ends in ascending order, and these are ends of one of them.
func TestSharing(t *testing.T) {
	visited := 0
	for _, p := range allPairs() {
		share, ok := seg.Share(p.s, p.t)
		if !ok {
			continue
		}
		visited++
		for _, a := range []api.Vec{share.A, share.B} {
			if !seg.On(p.s, a) || !seg.On(p.t, a) || a != p.s.A && a != p.s.B && a != p.t.A && a != p.t.B {
				t.Errorf("%v: %v", p, share)
			}
		}
		if share.A.Y > share.B.Y || share.A.Y == share.B.Y && share.A.X >= share.B.X {
			t.Errorf("%v: %v is not ascending", p, share)
		}
	}
	if visited < 1500 {
		t.Errorf("only %d shared segments were tried", visited)
	}
}

// P1: nothing panics, and the same calls lead to the same results, for segments, points and numbers of all sizes.
func TestSameResults(t *testing.T) {
	everyResult := func(a, b api.Seg, p api.Vec) [10]any {
		q := api.Point{X: a.A.X, Y: b.A.Y, Den: p.X}
		r := api.Point{X: p.Y, Y: b.B.X, Den: a.B.Y}
		whole, ok := seg.Whole(q)
		return [10]any{seg.Valid(a), seg.On(a, p), seg.Side(a, p), meetingOf(a, b), seg.PointOf(p), seg.ValidPoint(q), seg.ComparePoints(q, r), seg.ComparePoints(r, q), whole, ok}
	}
	segments := append(invalid(), between(grid(-1, 0, 1, 1))...)
	points := append(outside(), grid(-1, -1, 1, 2)...)
	for _, a := range segments {
		for _, b := range segments {
			for i, p := range points {
				if i%3 != 0 && seg.Valid(a) && seg.Valid(b) {
					continue
				}
				if r := everyResult(a, b, p); everyResult(a, b, p) != r {
					t.Errorf("%v, %v and %v: not %v again", a, b, p, r)
				}
			}
		}
	}
}
