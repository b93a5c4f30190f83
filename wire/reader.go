package wire

import "fretsaw/api"

// Reader decodes bytes. A method that fails leaves the offset where it is, and all later ones fail too.
type Reader struct {
	rest   []byte
	failed bool
}

// New returns a reader of a copy of b.
func New(b []byte) *Reader {
	return &Reader{rest: append([]byte(nil), b...)}
}

// read decodes a value with a cursor of its own, so that a failure within the value leaves the offset unchanged.
func read[T any](r *Reader, decode func(c *cursor) T) T {
	var zero T
	if r == nil || r.failed {
		return zero
	}
	c := cursor{rest: r.rest}
	v := decode(&c)
	if c.failed {
		r.failed = true
		return zero
	}
	r.rest = c.rest
	return v
}

// Int reads an integer.
func (r *Reader) Int() int {
	return read(r, (*cursor).integer)
}

// Bounded reads an integer from lo to hi.
func (r *Reader) Bounded(lo, hi int) int {
	return read(r, func(c *cursor) int { return c.bounded(lo, hi) })
}

// Bool reads a boolean.
func (r *Reader) Bool() bool {
	return read(r, (*cursor).boolean)
}

// Text reads a text of at most max bytes.
func (r *Reader) Text(max int) string {
	return read(r, func(c *cursor) string { return string(c.bytes(max)) })
}

// Bytes reads a byte string of at most max bytes.
func (r *Reader) Bytes(max int) []byte {
	return read(r, func(c *cursor) []byte { return append([]byte(nil), c.bytes(max)...) })
}

// Ints reads a list of at most max integers.
func (r *Reader) Ints(max int) []int {
	return read(r, func(c *cursor) []int { return list(c, max, (*cursor).integer) })
}

// Vec reads a vector.
func (r *Reader) Vec() api.Vec {
	return read(r, (*cursor).vec)
}

// Ring reads a ring of at most max vertices.
func (r *Reader) Ring(max int) api.Ring {
	return read(r, func(c *cursor) api.Ring { return c.ring(max) })
}

// Shape reads a shape.
func (r *Reader) Shape() api.Shape {
	return read(r, (*cursor).shape)
}

// Ratio reads a ratio.
func (r *Reader) Ratio() api.Ratio {
	return read(r, (*cursor).ratio)
}

// Left returns the number of bytes after the offset.
func (r *Reader) Left() int {
	if r == nil {
		return 0
	}
	return len(r.rest)
}

// End returns OK if no method has failed and all bytes have been read.
func (r *Reader) End() api.Errno {
	if r == nil {
		return api.ErrState
	}
	if r.failed || len(r.rest) > 0 {
		return api.ErrForm
	}
	return api.OK
}
