package hull_test

import (
	"testing"

	"fretsaw/api"
	"fretsaw/hull"
)

// P10.1: known farthest vertices: of two that are equally far, the lesser one counts; for (0, 0), all are equally far.
func TestKnownFarthest(t *testing.T) {
	square := list(4, 4, 0, 4, 0, 0, 4, 0)
	diamond := list(2, 0, 0, 2, -2, 0, 0, -2)
	for _, c := range []struct {
		r       api.Ring
		d, want api.Vec
	}{
		{square, v(1, 0), v(4, 0)}, {square, v(-1, 0), v(0, 0)}, {square, v(0, 1), v(0, 4)}, {square, v(0, -1), v(0, 0)}, {square, v(0, 0), v(0, 0)}, {square, v(1, 1), v(4, 4)}, {square, v(-1, 1), v(0, 4)}, {square, v(1, -1), v(4, 0)}, {square, v(8000, 1), v(4, 4)}, {square, v(8000, -1), v(4, 0)}, {square, v(-8000, 1), v(0, 4)},
		{diamond, v(1, 1), v(2, 0)}, {diamond, v(-1, 1), v(-2, 0)}, {diamond, v(1, -1), v(0, -2)}, {diamond, v(-1, -1), v(0, -2)}, {diamond, v(0, 0), v(0, -2)}, {diamond, v(7999, 8000), v(0, 2)}, {diamond, v(8000, 7999), v(2, 0)}, {diamond, v(-5, 0), v(-2, 0)},
		{list(-8000, -8000, 8000, 7999, 8000, 8000), v(8000, 0), v(8000, 7999)}, {list(-8000, -8000, 8000, 7999, 8000, 8000), v(-8000, 8000), v(-8000, -8000)}, {list(-8000, -8000, 8000, 7999, 8000, 8000), v(-7999, 8000), v(8000, 8000)},
	} {
		if a, e := hull.Farthest(c.r, c.d); e != api.OK || a != c.want {
			t.Errorf("%v in the direction %v: %v, %v", c.r, c.d, a, e)
		}
	}
}

// P10.1: directions beyond the limit are ErrRange, with zero values; ones at the limit are not.
func TestFarDirections(t *testing.T) {
	for _, r := range convexRings() {
		for _, d := range farDirections() {
			a, e := hull.Farthest(r, d)
			width, eWidth := hull.Width(r, d)
			if e != api.ErrRange || eWidth != api.ErrRange || a != v(0, 0) || width != 0 {
				t.Errorf("%v in the direction %v: %v, %v; %d, %v", r, d, a, e, width, eWidth)
			}
		}
	}
}

// P10.1: the farthest vertex against all vertices, and the width against the greatest and the least scalar product.
func TestFarthest(t *testing.T) {
	ties := 0
	for _, r := range rings() {
		for _, d := range directions() {
			far, lowest := r[0], dot(r[0], d)
			for _, a := range r {
				n := dot(a, d)
				if a != far && n == dot(far, d) {
					ties++
				}
				if n > dot(far, d) || n == dot(far, d) && isLess(a, far) {
					far = a
				}
				lowest = min(lowest, n)
			}
			if a, e := hull.Farthest(r, d); e != api.OK || a != far {
				t.Errorf("%v in the direction %v: %v, %v, not %v", r, d, a, e, far)
			}
			if n, e := hull.Width(r, d); e != api.OK || n != dot(far, d)-lowest {
				t.Errorf("the width of %v in the direction %v: %d, %v", r, d, n, e)
			}
		}
	}
	if ties < 1000 {
		t.Errorf("only %d vertices that are equally far", ties)
	}
}

// P10.1: known widths and squared diameters.
func TestKnownWidths(t *testing.T) {
	for _, c := range []struct {
		r               api.Ring
		d               api.Vec
		width, diameter int
	}{
		{list(0, 0, 4, 0, 4, 2, 0, 2), v(1, -2), 8, 20}, {list(0, 0, 4, 0, 4, 2, 0, 2), v(0, 0), 0, 20}, {list(0, 0, 1, 0, 0, 1), v(1, 0), 1, 2}, {list(0, 0, 3, 0, 0, 4), v(-3, 4), 25, 25}, {list(0, 0, 9, 0, 5, 1), v(0, 7), 7, 81}, {list(1, 0, 3, 0, 4, 2, 3, 4, 1, 4, 0, 2), v(1, 2), 10, 20},
		{list(-8000, -8000, 8000, -8000, 8000, 8000, -8000, 8000), v(8000, 8000), 256000000, 512000000}, {list(-8000, -8000, 8000, -8000, 8000, 8000, -8000, 8000), v(-8000, 1), 128016000, 512000000}, {list(-8000, -8000, -7999, -8000, -8000, -7999), v(-8000, 8000), 16000, 2},
	} {
		if n, e := hull.Width(c.r, c.d); e != api.OK || n != c.width {
			t.Errorf("the width of %v in the direction %v: %d, %v", c.r, c.d, n, e)
		}
		if n, e := hull.Diameter2(c.r); e != api.OK || n != c.diameter {
			t.Errorf("the squared diameter of %v: %d, %v", c.r, n, e)
		}
	}
}

// P10.1: the squared diameter against the distances of all pairs of vertices.
func TestDiameter(t *testing.T) {
	for _, r := range rings() {
		want := 0
		for _, a := range r {
			for _, b := range r {
				want = max(want, (a.X-b.X)*(a.X-b.X)+(a.Y-b.Y)*(a.Y-b.Y))
			}
		}
		if n, e := hull.Diameter2(r); e != api.OK || n != want {
			t.Errorf("%v: %d, %v, not %d", r, n, e, want)
		}
	}
}
