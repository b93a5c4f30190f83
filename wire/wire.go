// Package wire implements layer 1: binary encoding. See shared/doc/01-wire.md.
package wire

import "fretsaw/api"

// Int appends the encoding of an integer.
func Int(b []byte, n int) []byte {
	size := intSize(n)
	b = append(b, byte(size))
	for shift := 8 * (size - 1); shift >= 0; shift -= 8 {
		b = append(b, byte(n>>shift))
	}
	return b
}

// intSize returns the least number of bytes whose two's complement holds n. Zero needs none.
func intSize(n int) int {
	if n == 0 {
		return 0
	}
	size := 1
	for n>>(8*size-1) != 0 && n>>(8*size-1) != -1 {
		size++
	}
	return size
}

// Bool appends the encoding of a boolean.
func Bool(b []byte, v bool) []byte {
	if v {
		return append(b, 1)
	}
	return append(b, 0)
}

// Text appends the encoding of a text.
func Text(b []byte, s string) []byte {
	return append(Int(b, len(s)), s...)
}

// Bytes appends the encoding of a byte string.
func Bytes(b, x []byte) []byte {
	// x may lie in the capacity of b, where the length would overwrite it: a copy keeps it.
	encoded := append(Int(nil, len(x)), x...)
	return append(b, encoded...)
}

// Ints appends the encoding of a list of integers.
func Ints(b []byte, l []int) []byte {
	return appendList(b, l, Int)
}

// Vec appends the encoding of a vector.
func Vec(b []byte, v api.Vec) []byte {
	return Int(Int(b, v.X), v.Y)
}

// Ring appends the encoding of a ring.
func Ring(b []byte, r api.Ring) []byte {
	return appendList(b, r, Vec)
}

// Shape appends the encoding of a shape.
func Shape(b []byte, s api.Shape) []byte {
	return appendList(Ring(b, s.Outer), s.Holes, Ring)
}

// Ratio appends the encoding of a ratio.
func Ratio(b []byte, x api.Ratio) []byte {
	return Int(Int(b, x.Num), x.Den)
}

// appendList appends the number of the elements of l, and the elements.
func appendList[T any](b []byte, l []T, element func(b []byte, x T) []byte) []byte {
	b = Int(b, len(l))
	for _, x := range l {
		b = element(b, x)
	}
	return b
}
