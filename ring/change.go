package ring

import (
	"slices"

	"fretsaw/api"
	"fretsaw/vec"
)

// Canonical returns a valid ring that begins with its least vertex.
func Canonical(r api.Ring) api.Ring {
	if !Valid(r) {
		return nil
	}
	first := slices.Index(r, slices.MinFunc(r, vec.Compare))
	return slices.Concat(r[first:], r[:first])
}

// Reverse returns the vertices in the opposite order.
func Reverse(r api.Ring) api.Ring {
	opposite := slices.Clone(r)
	slices.Reverse(opposite)
	return opposite
}

// Move returns a ring that is moved by a vector.
func Move(r api.Ring, v api.Vec) (api.Ring, api.Errno) {
	if !Valid(r) {
		return nil, api.ErrShape
	}
	moved := make(api.Ring, len(r))
	for i, p := range r {
		moved[i] = vec.Add(p, v)
	}
	// A sum that wraps around is no exception: it lies near the other end of the integers.
	if !isWithin(moved) {
		return nil, api.ErrRange
	}
	return moved, api.OK
}

// Clean returns the cleaned ring of a list of points.
func Clean(l []api.Vec) (api.Ring, api.Errno) {
	switch {
	case len(l) > MaxPoints:
		return nil, api.ErrLimit
	case !isWithin(l):
		return nil, api.ErrRange
	}
	r := api.Ring(slices.Clone(l))
	for i := needless(r); i < len(r); i = needless(r) {
		r = slices.Delete(r, i, i+1)
	}
	if doubledArea(r) < 0 {
		slices.Reverse(r)
	}
	if !Valid(r) {
		return nil, api.ErrShape
	}
	return Canonical(r), api.OK
}

// needless returns the index of the first point that cleaning removes, and the length of the list if there is none.
func needless(l []api.Vec) int {
	for i, p := range l {
		if p == l[(i+1)%len(l)] || turnAt(l, i) == 0 {
			return i
		}
	}
	return len(l)
}
