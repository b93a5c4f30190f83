package wire_test

import (
	"bytes"
	"fmt"
	"math"
	"testing"

	"fretsaw/api"
	"fretsaw/wire"
)

// limited is a read method with its limits, and the bytes that it reads.
type limited struct {
	name string
	b    []byte
	read func(r *wire.Reader) any
}

// checkRead expects that all bytes are read as want.
func (l limited) checkRead(t *testing.T, want any) {
	t.Helper()
	r := wire.New(l.b)
	if v := l.read(r); !same(v, want) || r.Left() != 0 || r.End() != api.OK {
		t.Errorf("%s: %v, with %d bytes left, %s; want %v", l.name, v, r.Left(), r.End().Name(), want)
	}
}

// checkFails expects a failure that leaves all bytes.
func (l limited) checkFails(t *testing.T, zero any) {
	t.Helper()
	r := wire.New(l.b)
	if v := l.read(r); !same(v, zero) || r.Left() != len(l.b) || r.End() != api.ErrForm {
		t.Errorf("%s: %v, with %d bytes left, %s; want a failure", l.name, v, r.Left(), r.End().Name())
	}
}

// P1.1: the limits of Bounded.
func TestBounded(t *testing.T) {
	for _, c := range []struct {
		n, lo, hi int
		ok        bool
	}{
		{5, 5, 5, true}, {5, 0, 5, true}, {5, 5, 9, true}, {5, 0, 4, false}, {5, 6, 9, false}, {5, 9, 0, false}, {5, 6, 4, false},
		{0, 0, 0, true}, {0, 1, 2, false}, {0, -2, -1, false}, {0, 1, -1, false}, {-3, -3, -3, true}, {-3, -2, 0, false}, {-3, -9, -4, false},
		{math.MaxInt, math.MinInt, math.MaxInt, true}, {math.MaxInt, 0, math.MaxInt - 1, false},
		{math.MinInt, math.MinInt, math.MinInt, true}, {math.MinInt, math.MinInt + 1, math.MaxInt, false},
	} {
		l := limited{"Bounded", wire.Int(nil, c.n), func(r *wire.Reader) any { return r.Bounded(c.lo, c.hi) }}
		if c.ok {
			l.checkRead(t, c.n)
		} else {
			l.checkFails(t, 0)
		}
	}
}

// P1.1: only 0 and 1 are booleans.
func TestBool(t *testing.T) {
	for c := range 256 {
		l := limited{"Bool", []byte{byte(c)}, func(r *wire.Reader) any { return r.Bool() }}
		if c <= 1 {
			l.checkRead(t, c == 1)
		} else {
			l.checkFails(t, false)
		}
	}
}

// P1.1: the limits of Text, Bytes, Ints and Ring, met and exceeded, for few and many bytes or elements.
func TestLimitsOfLists(t *testing.T) {
	for _, n := range []int{0, 1, 2, 40, 41, 127, 128, 1000} {
		text, ints, ring := string(bytes.Repeat([]byte{'x'}, n)), make([]int, n), make(api.Ring, n)
		for _, max := range []int{math.MinInt, -1, 0, n - 1, n, n + 1, math.MaxInt} {
			name := fmt.Sprintf("%d elements, at most %d", n, max)
			for _, c := range []struct {
				l          limited
				want, zero any
			}{
				{limited{"Text, " + name, wire.Text(nil, text), func(r *wire.Reader) any { return r.Text(max) }}, text, ""},
				{limited{"Bytes, " + name, wire.Bytes(nil, []byte(text)), func(r *wire.Reader) any { return r.Bytes(max) }}, []byte(text), []byte(nil)},
				{limited{"Ints, " + name, wire.Ints(nil, ints), func(r *wire.Reader) any { return r.Ints(max) }}, ints, []int(nil)},
				{limited{"Ring, " + name, wire.Ring(nil, ring), func(r *wire.Reader) any { return r.Ring(max) }}, ring, api.Ring(nil)},
			} {
				if n <= max {
					c.l.checkRead(t, c.want)
				} else {
					c.l.checkFails(t, c.zero)
				}
			}
		}
	}
}

// P1.1: the limits of Shape, met and exceeded, in each ring.
func TestLimitsOfShape(t *testing.T) {
	full := api.Shape{Outer: make(api.Ring, api.MaxVertices), Holes: fullHoles()}
	read := func(r *wire.Reader) any { return r.Shape() }
	limited{"full shape", wire.Shape(nil, full), read}.checkRead(t, full)
	outer := api.Shape{Outer: make(api.Ring, api.MaxVertices+1)}
	limited{"41 outer vertices", wire.Shape(nil, outer), read}.checkFails(t, api.Shape{})
	holes := api.Shape{Holes: append(fullHoles(), nil)}
	limited{"7 holes", wire.Shape(nil, holes), read}.checkFails(t, api.Shape{})
	for i := range api.MaxHoles {
		hole := api.Shape{Holes: fullHoles()}
		hole.Holes[i] = make(api.Ring, api.MaxVertices+1)
		limited{fmt.Sprintf("41 vertices of hole %d", i), wire.Shape(nil, hole), read}.checkFails(t, api.Shape{})
	}
}

// P1 and P1.1: numbers of elements that are negative, or more than the bytes can hold.
func TestWrongNumbers(t *testing.T) {
	for _, n := range []int{-1, -128, math.MinInt, 4, 1000, math.MaxInt} {
		b := append(wire.Int(nil, n), 0, 0, 0)
		for _, max := range []int{-1, 0, 40, math.MaxInt, math.MinInt} {
			name := fmt.Sprintf("number %d, at most %d", n, max)
			limited{"Text, " + name, b, func(r *wire.Reader) any { return r.Text(max) }}.checkFails(t, "")
			limited{"Bytes, " + name, b, func(r *wire.Reader) any { return r.Bytes(max) }}.checkFails(t, []byte(nil))
			limited{"Ints, " + name, b, func(r *wire.Reader) any { return r.Ints(max) }}.checkFails(t, []int(nil))
			limited{"Ring, " + name, b, func(r *wire.Reader) any { return r.Ring(max) }}.checkFails(t, api.Ring(nil))
		}
		limited{"Shape", b, func(r *wire.Reader) any { return r.Shape() }}.checkFails(t, api.Shape{})
		limited{"Shape", append([]byte{0}, b...), func(r *wire.Reader) any { return r.Shape() }}.checkFails(t, api.Shape{})
	}
}

// P1.1: the reader has a copy of the bytes.
func TestReaderOfCopy(t *testing.T) {
	b := []byte{1, 5, 1, 6}
	r := wire.New(b)
	b[1], b[3] = 7, 8
	if r.Int() != 5 || r.Int() != 6 || r.End() != api.OK {
		t.Error("the reader sees a change of its argument")
	}
}

// P1.1: results share no memory with the reader, and none with each other.
func TestResultsShareNothing(t *testing.T) {
	b := wire.Bytes(nil, []byte{1, 2})
	b = wire.Int(wire.Bytes(b, nil), 5)
	r := wire.New(b)
	x := r.Bytes(2)
	_ = append(append(x, 99), 99)
	y := r.Bytes(2)
	_ = append(y, 99)
	if !bytes.Equal(x, []byte{1, 2}) || len(y) != 0 || r.Int() != 5 || r.End() != api.OK {
		t.Error("bytes that are appended to a result are read")
	}
	r = wire.New(wire.Shape(nil, api.Shape{Outer: make(api.Ring, 1), Holes: []api.Ring{make(api.Ring, 1), make(api.Ring, 1)}}))
	s := r.Shape()
	_ = append(s.Outer, api.Vec{X: 9})
	_ = append(s.Holes[0], api.Vec{X: 9})
	if s.Holes[0][0] != (api.Vec{}) || s.Holes[1][0] != (api.Vec{}) {
		t.Errorf("the rings of a shape share memory: %v", s)
	}
}

// P1.1: End and Left change nothing, and tell how far the reader is.
func TestEndAndLeft(t *testing.T) {
	r := wire.New([]byte{1, 5, 0})
	for i, left := range []int{3, 1, 0} {
		if r.Left() != left || r.Left() != left || (r.End() == api.OK) != (left == 0) || (r.End() == api.ErrForm) != (left > 0) {
			t.Errorf("behind %d values: %d bytes are left, End is %s", i, r.Left(), r.End().Name())
		}
		if left > 0 {
			r.Int()
		}
	}
	for _, b := range [][]byte{nil, {}} {
		if r := wire.New(b); r == nil || r.Left() != 0 || r.End() != api.OK {
			t.Errorf("a reader of %v is not at its end", b)
		}
	}
}

// P1 and P1.1: a nil reader.
func TestNilReader(t *testing.T) {
	var r *wire.Reader
	for range 2 {
		for _, k := range kinds() {
			if v := k.read(r); !same(v, k.zero) {
				t.Errorf("%s of a nil reader: %v", k.name, v)
			}
		}
		if r.Left() != 0 || r.End() != api.ErrState {
			t.Errorf("a nil reader has %d bytes left, End is %s", r.Left(), r.End().Name())
		}
	}
}

// P1 and P1.1: the zero value of a reader has no bytes.
func TestZeroReader(t *testing.T) {
	for _, k := range kinds() {
		var r wire.Reader
		if r.Left() != 0 || r.End() != api.OK {
			t.Errorf("a zero reader has %d bytes left, End is %s", r.Left(), r.End().Name())
		}
		if v := k.read(&r); !same(v, k.zero) || r.End() != api.ErrForm {
			t.Errorf("%s of a zero reader: %v, %s", k.name, v, r.End().Name())
		}
	}
}

// failures has the bytes on which each read method fails: in its first byte, and in its middle where there is one.
func failures() []limited {
	return []limited{
		{"Int", []byte{9}, func(r *wire.Reader) any { return r.Int() }},
		{"Bounded", []byte{1, 5}, func(r *wire.Reader) any { return r.Bounded(0, 4) }},
		{"Bool", []byte{2}, func(r *wire.Reader) any { return r.Bool() }},
		{"Text", []byte{1, 9, 'a'}, func(r *wire.Reader) any { return r.Text(9) }},
		{"Text", []byte{1, 2, 'a', 'b'}, func(r *wire.Reader) any { return r.Text(1) }},
		{"Bytes", []byte{1, 9, 'a'}, func(r *wire.Reader) any { return r.Bytes(9) }},
		{"Bytes", []byte{1, 2, 'a', 'b'}, func(r *wire.Reader) any { return r.Bytes(1) }},
		{"Ints", []byte{1, 3, 0, 0, 9}, func(r *wire.Reader) any { return r.Ints(9) }},
		{"Ints", []byte{1, 3, 0, 0, 0}, func(r *wire.Reader) any { return r.Ints(2) }},
		{"Vec", []byte{9}, func(r *wire.Reader) any { return r.Vec() }},
		{"Vec", []byte{1, 1, 2, 0, 0}, func(r *wire.Reader) any { return r.Vec() }},
		{"Ring", []byte{1, 2, 1, 1, 0, 1, 1, 9}, func(r *wire.Reader) any { return r.Ring(9) }},
		{"Ring", []byte{1, 1, 1, 1, 0}, func(r *wire.Reader) any { return r.Ring(0) }},
		{"Shape", []byte{1, 1, 1, 1, 9}, func(r *wire.Reader) any { return r.Shape() }},
		{"Shape", []byte{1, 1, 0, 0, 1, 7}, func(r *wire.Reader) any { return r.Shape() }},
		{"Shape", []byte{1, 1, 0, 0, 1, 2, 1, 1, 0, 0, 1, 1, 9}, func(r *wire.Reader) any { return r.Shape() }},
		{"Ratio", []byte{1, 1, 1, 0}, func(r *wire.Reader) any { return r.Ratio() }},
	}
}

// P1.5: behind a failure of any method, no method returns a value or moves the offset, though it could read what is there.
func TestFailureStays(t *testing.T) {
	for _, f := range failures() {
		for _, good := range [][]byte{nil, {1, 7}} {
			b := append(bytes.Clone(good), f.b...)
			b = append(b, 9, 9)
			r := wire.New(b)
			if good != nil && r.Int() != 7 {
				t.Fatal("the first integer is not read")
			}
			f.read(r)
			left := len(f.b) + 2
			if r.Left() != left || r.End() != api.ErrForm {
				t.Errorf("%s of %v: %d bytes are left, End is %s", f.name, f.b, r.Left(), r.End().Name())
			}
			checkDead(t, f, r, left)
		}
	}
}

// checkDead expects that r has failed and has left bytes behind its offset, whatever is called.
func checkDead(t *testing.T, f limited, r *wire.Reader, left int) {
	t.Helper()
	for range 2 {
		for _, k := range kinds() {
			if v := k.read(r); !same(v, k.zero) || r.Left() != left || r.End() != api.ErrForm {
				t.Fatalf("behind a failure of %s on %v: %s returns %v, %d bytes are left, End is %s", f.name, f.b, k.name, v, r.Left(), r.End().Name())
			}
		}
	}
}

// P1.5: a failure at the very end of the bytes is one, too.
func TestFailureAtEnd(t *testing.T) {
	for _, k := range kinds() {
		r := wire.New([]byte{0})
		if r.Int(); r.End() != api.OK {
			t.Fatal("zero is not read")
		}
		k.read(r)
		checkDead(t, limited{name: k.name}, r, 0)
	}
}
