package shape

import (
	"slices"

	"fretsaw/api"
	"fretsaw/ring"
	"fretsaw/symmetry"
	"fretsaw/vec"
)

// unchanged is the symmetry that changes nothing.
const unchanged = 0

// Canonical returns the canonical shape of a valid one.
func Canonical(s api.Shape) api.Shape {
	canonical, _ := Turn(s, unchanged)
	return canonical
}

// Move returns a shape that is moved by a vector.
func Move(s api.Shape, v api.Vec) (api.Shape, api.Errno) {
	if !Valid(s) {
		return api.Shape{}, api.ErrShape
	}
	return mapRings(s, func(r api.Ring) (api.Ring, api.Errno) { return ring.Move(r, v) })
}

// Turn returns the canonical shape that is mapped by a symmetry.
func Turn(s api.Shape, t int) (api.Shape, api.Errno) {
	switch {
	case !symmetry.Valid(t):
		return api.Shape{}, api.ErrTurn
	case !Valid(s):
		return api.Shape{}, api.ErrShape
	}
	turned, e := mapRings(s, func(r api.Ring) (api.Ring, api.Errno) { return symmetry.Ring(t, r) })
	slices.SortFunc(turned.Holes, func(a, b api.Ring) int { return vec.Compare(a[0], b[0]) })
	return turned, e
}

// Place returns the placed shape.
func Place(s api.Shape, t int, v api.Vec) (api.Shape, api.Errno) {
	turned, e := Turn(s, t)
	if e != api.OK {
		return api.Shape{}, e
	}
	return Move(turned, v)
}

// mapRings returns the shape with all rings mapped by a function, in the same order, or the first error of the function.
func mapRings(s api.Shape, change func(api.Ring) (api.Ring, api.Errno)) (api.Shape, api.Errno) {
	var rings []api.Ring
	for r := range ringsOf(s) {
		changed, e := change(r)
		if e != api.OK {
			return api.Shape{}, e
		}
		rings = append(rings, changed)
	}
	return api.Shape{Outer: rings[0], Holes: rings[1:]}, api.OK
}
