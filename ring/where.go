package ring

import (
	"fretsaw/api"
	"fretsaw/seg"
	"fretsaw/vec"
)

// Where returns where a point lies.
func Where(r api.Ring, p api.Vec) int { return WherePoint(r, seg.PointOf(p)) }

// WherePoint returns where a rational point lies.
func WherePoint(r api.Ring, p api.Point) int {
	if !Valid(r) || !seg.ValidPoint(p) {
		return Outside
	}
	// The ray leads from the point to the right; all that is compared is multiplied by the denominator.
	start := api.Vec{X: p.X, Y: p.Y}
	crossings, isOnEdge := 0, false
	count := func(e api.Seg) {
		if vec.Less(e.B, e.A) {
			e.A, e.B = e.B, e.A
		}
		low, high := vec.Scale(e.A, p.Den), vec.Scale(e.B, p.Den)
		// The direction is not multiplied, so that the product does not wrap around.
		side := vec.Cross(vec.Sub(e.B, e.A), vec.Sub(start, low))
		switch {
		case side == 0 && !vec.Less(start, low) && !vec.Less(high, start):
			isOnEdge = true
		case side > 0 && low.Y <= start.Y && start.Y < high.Y:
			// The upper end does not count, so that a ray through a vertex crosses two edges only if it passes between them.
			crossings++
		}
	}
	for _, e := range Edges(r) {
		count(e)
	}
	switch {
	case isOnEdge:
		return Boundary
	case crossings%2 == 1:
		return Inside
	}
	return Outside
}
