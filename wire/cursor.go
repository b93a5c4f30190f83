package wire

import "fretsaw/api"

// cursor decodes the bytes of rest from its start. A failure stays, so that a value
// of several parts is checked once behind its last part; what was decoded is then void.
type cursor struct {
	rest   []byte
	failed bool
}

// fail marks the failure and returns the integer of a failed method.
func (c *cursor) fail() int {
	c.failed = true
	return 0
}

// integer decodes an integer.
func (c *cursor) integer() int {
	if len(c.rest) == 0 {
		return c.fail()
	}
	size := int(c.rest[0])
	if size > 8 || size >= len(c.rest) {
		return c.fail()
	}
	n := 0
	for i, x := range c.rest[1 : 1+size] {
		if i == 0 {
			n = int(int8(x))
		} else {
			n = n<<8 | int(x)
		}
	}
	if size != intSize(n) {
		return c.fail()
	}
	c.rest = c.rest[1+size:]
	return n
}

// bounded decodes an integer from lo to hi.
func (c *cursor) bounded(lo, hi int) int {
	n := c.integer()
	if n < lo || n > hi {
		return c.fail()
	}
	return n
}

// boolean decodes a boolean.
func (c *cursor) boolean() bool {
	if len(c.rest) == 0 || c.rest[0] > 1 {
		c.fail()
		return false
	}
	v := c.rest[0] == 1
	c.rest = c.rest[1:]
	return v
}

// bytes decodes a byte string of at most max bytes, and returns the part of rest that has it.
func (c *cursor) bytes(max int) []byte {
	n := c.bounded(0, max)
	if n > len(c.rest) {
		c.fail()
		return nil
	}
	x := c.rest[:n]
	c.rest = c.rest[n:]
	return x
}

// vec decodes a vector.
func (c *cursor) vec() api.Vec {
	x := c.integer()
	y := c.integer()
	return api.Vec{X: x, Y: y}
}

// ring decodes a ring of at most max vertices.
func (c *cursor) ring(max int) api.Ring {
	return list(c, max, (*cursor).vec)
}

// shape decodes a shape.
func (c *cursor) shape() api.Shape {
	outer := c.ring(api.MaxVertices)
	holes := list(c, api.MaxHoles, func(c *cursor) api.Ring { return c.ring(api.MaxVertices) })
	return api.Shape{Outer: outer, Holes: holes}
}

// ratio decodes a ratio.
func (c *cursor) ratio() api.Ratio {
	num := c.integer()
	den := c.integer()
	return api.Ratio{Num: num, Den: den}
}

// list decodes a number from 0 to max, and that many elements. The list grows with the
// elements that are there, because the number may promise far more than the bytes hold.
func list[T any](c *cursor, max int, element func(c *cursor) T) []T {
	n := c.bounded(0, max)
	var l []T
	for i := 0; i < n && !c.failed; i++ {
		l = append(l, element(c))
	}
	return l
}
