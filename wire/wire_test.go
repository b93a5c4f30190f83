package wire_test

import (
	"bytes"
	"math"
	"testing"

	"fretsaw/api"
	"fretsaw/wire"
)

// P1.1: the bytes of integers, at the bounds of every size.
func TestIntBytes(t *testing.T) {
	for n, want := range map[int][]byte{
		0: {0}, 1: {1, 1}, -1: {1, 255}, 127: {1, 127}, -128: {1, 128},
		128: {2, 0, 128}, -129: {2, 255, 127}, 255: {2, 0, 255}, 256: {2, 1, 0}, 32767: {2, 127, 255}, -32768: {2, 128, 0},
		32768: {3, 0, 128, 0}, -32769: {3, 255, 127, 255}, 1<<23 - 1: {3, 127, 255, 255}, -1 << 23: {3, 128, 0, 0},
		1 << 23: {4, 0, 128, 0, 0}, -1<<23 - 1: {4, 255, 127, 255, 255},
		1 << 31: {5, 0, 128, 0, 0, 0}, 1 << 39: {6, 0, 128, 0, 0, 0, 0}, 1 << 47: {7, 0, 128, 0, 0, 0, 0, 0},
		1<<55 - 1: {7, 127, 255, 255, 255, 255, 255, 255}, -1 << 55: {7, 128, 0, 0, 0, 0, 0, 0},
		1 << 55: {8, 0, 128, 0, 0, 0, 0, 0, 0}, -1<<55 - 1: {8, 255, 127, 255, 255, 255, 255, 255, 255},
		0x0102030405060708: {8, 1, 2, 3, 4, 5, 6, 7, 8},
		math.MaxInt:        {8, 127, 255, 255, 255, 255, 255, 255, 255},
		math.MinInt:        {8, 128, 0, 0, 0, 0, 0, 0, 0},
	} {
		if b := wire.Int(nil, n); !bytes.Equal(b, want) {
			t.Errorf("%d is encoded as %v, want %v", n, b, want)
		}
		r := wire.New(want)
		if m := r.Int(); m != n || r.End() != api.OK {
			t.Errorf("%v is read as %d, want %d", want, m, n)
		}
	}
}

// P1.1: the bytes of the other types.
func TestBytesOfTypes(t *testing.T) {
	hundreds := bytes.Repeat([]byte{'x'}, 200)
	for name, c := range map[string]struct{ got, want []byte }{
		"false":      {wire.Bool(nil, false), []byte{0}},
		"true":       {wire.Bool(nil, true), []byte{1}},
		"no text":    {wire.Text(nil, ""), []byte{0}},
		"text":       {wire.Text(nil, "ab"), []byte{1, 2, 'a', 'b'}},
		"bad text":   {wire.Text(nil, "\xff\x00"), []byte{1, 2, 255, 0}},
		"long text":  {wire.Text(nil, string(hundreds)), append([]byte{2, 0, 200}, hundreds...)},
		"no bytes":   {wire.Bytes(nil, nil), []byte{0}},
		"bytes":      {wire.Bytes(nil, []byte{7, 0}), []byte{1, 2, 7, 0}},
		"long bytes": {wire.Bytes(nil, hundreds), append([]byte{2, 0, 200}, hundreds...)},
		"no ints":    {wire.Ints(nil, nil), []byte{0}},
		"ints":       {wire.Ints(nil, []int{0, -1, 128}), []byte{1, 3, 0, 1, 255, 2, 0, 128}},
		"vec":        {wire.Vec(nil, api.Vec{X: 3}), []byte{1, 3, 0}},
		"other vec":  {wire.Vec(nil, api.Vec{X: -2, Y: 5}), []byte{1, 254, 1, 5}},
		"no ring":    {wire.Ring(nil, nil), []byte{0}},
		"ring":       {wire.Ring(nil, api.Ring{{X: 1}, {Y: 2}}), []byte{1, 2, 1, 1, 0, 0, 1, 2}},
		"no shape":   {wire.Shape(nil, api.Shape{}), []byte{0, 0}},
		"shape":      {wire.Shape(nil, api.Shape{Outer: api.Ring{{X: 1}}, Holes: []api.Ring{nil, {{Y: 2}}}}), []byte{1, 1, 1, 1, 0, 1, 2, 0, 1, 1, 0, 1, 2}},
		"ratio":      {wire.Ratio(nil, api.Ratio{Num: -1, Den: 128}), []byte{1, 255, 2, 0, 128}},
		"wide ratio": {wire.Ratio(nil, api.Ratio{Num: 2, Den: -4}), []byte{1, 2, 1, 252}},
	} {
		if !bytes.Equal(c.got, c.want) {
			t.Errorf("%s: %v, want %v", name, c.got, c.want)
		}
	}
}

// P1.1: an encoding is appended; what stood in the slice before is unchanged.
func TestAppend(t *testing.T) {
	for _, k := range kinds() {
		for _, v := range k.samples {
			alone := k.encode(nil, v)
			for _, spare := range []int{0, 1, 1000} {
				b := append(make([]byte, 0, 3+spare), 5, 6, 7)
				got := k.encode(b, v)
				if !bytes.Equal(b, []byte{5, 6, 7}) || !bytes.Equal(got, append([]byte{5, 6, 7}, alone...)) {
					t.Errorf("%s of %v behind three bytes with %d spare ones: %v", k.name, v, spare, got)
				}
			}
		}
	}
}

// P1.1: the bytes may lie in the capacity of the slice to which they are appended.
func TestBytesInCapacity(t *testing.T) {
	x := append(make([]byte, 0, 100), 1, 2, 3, 4)
	if got := wire.Bytes(x[:0], x); !bytes.Equal(got, []byte{1, 4, 1, 2, 3, 4}) {
		t.Errorf("bytes at the start of the capacity: %v", got)
	}
	x = append(make([]byte, 0, 100), 9, 1, 2, 3, 4)
	if got := wire.Bytes(x[:1], x[2:]); !bytes.Equal(got, []byte{9, 1, 3, 2, 3, 4}) {
		t.Errorf("bytes within the capacity: %v", got)
	}
}

// P1 and P1.1: arguments are not modified, and the same calls lead to the same results.
func TestArgumentsUnchanged(t *testing.T) {
	x, l := []byte{1, 2}, []int{3, 4}
	s := api.Shape{Outer: api.Ring{{X: 1}}, Holes: []api.Ring{{{Y: 2}}}}
	for range 2 {
		if !bytes.Equal(wire.Bytes(nil, x), []byte{1, 2, 1, 2}) || !bytes.Equal(wire.Ints(nil, l), []byte{1, 2, 1, 3, 1, 4}) {
			t.Error("the lists are encoded otherwise")
		}
		if !bytes.Equal(wire.Ring(nil, s.Outer), []byte{1, 1, 1, 1, 0}) || !bytes.Equal(wire.Shape(nil, s), []byte{1, 1, 1, 1, 0, 1, 1, 1, 1, 0, 1, 2}) {
			t.Error("the polygons are encoded otherwise")
		}
	}
	if !bytes.Equal(x, []byte{1, 2}) || l[0] != 3 || l[1] != 4 || s.Outer[0] != (api.Vec{X: 1}) || s.Holes[0][0] != (api.Vec{Y: 2}) {
		t.Errorf("an argument was modified: %v %v %v", x, l, s)
	}
	for _, k := range kinds() {
		for _, v := range k.samples {
			b := k.encode(nil, v)
			kept := bytes.Clone(b)
			first, second := k.read(wire.New(b)), k.read(wire.New(b))
			if !same(first, second) || !bytes.Equal(b, kept) {
				t.Errorf("%s: %v is read as %v, then as %v", k.name, b, first, second)
			}
		}
	}
}

// P1.2: what was encoded is read back, whatever follows.
func TestRoundTrip(t *testing.T) {
	suffixes := [][]byte{nil, {0}, {1}, {255}, {2, 0}, {9, 9, 9, 9}, bytes.Repeat([]byte{1}, 300)}
	for _, k := range kinds() {
		for _, v := range k.samples {
			b := k.encode(nil, v)
			for _, suffix := range suffixes {
				r := wire.New(append(b[:len(b):len(b)], suffix...))
				w := k.read(r)
				if !same(v, w) || r.Left() != len(suffix) {
					t.Errorf("%s: %v is read back as %v, with %d bytes left of %d", k.name, v, w, r.Left(), len(suffix))
				}
				if end := r.End(); (end == api.OK) != (len(suffix) == 0) {
					t.Errorf("%s: %v, End is %v with %d bytes behind it", k.name, v, end.Name(), len(suffix))
				}
			}
		}
	}
}

// P1.2: values of all types, one behind the other.
func TestRoundTripOfSequence(t *testing.T) {
	var b []byte
	for _, k := range kinds() {
		for _, v := range k.samples {
			b = k.encode(b, v)
		}
	}
	r := wire.New(b)
	for _, k := range kinds() {
		for _, v := range k.samples {
			if w := k.read(r); !same(v, w) {
				t.Fatalf("%s: %v is read back as %v", k.name, v, w)
			}
		}
	}
	if r.Left() != 0 || r.End() != api.OK {
		t.Errorf("%d bytes are left, End is %s", r.Left(), r.End().Name())
	}
}

// P1.3: all that is read without a failure has exactly the bytes that were read as its encoding.
func TestCanonical(t *testing.T) {
	shortStrings(5, func(b []byte) {
		for _, k := range kinds() {
			checkCanonical(t, k, b)
		}
	})
}

// checkCanonical stops at the first error. It uses that every encoding has a byte, so that a read method succeeds exactly if it advances.
func checkCanonical(t *testing.T, k kind, b []byte) {
	r := wire.New(b)
	v := k.read(r)
	used := b[:len(b)-r.Left()]
	if len(used) == 0 {
		if !same(v, k.zero) || r.End() != api.ErrForm {
			t.Fatalf("%s fails on %v with %v, %s", k.name, b, v, r.End().Name())
		}
		return
	}
	if again := k.encode(nil, v); !bytes.Equal(again, used) {
		t.Fatalf("%s reads %v from %v, which is encoded as %v", k.name, v, used, again)
	}
}

// P1.3: encodings of integers that are not the shortest, or no encodings at all.
func TestInvalidInts(t *testing.T) {
	for _, b := range [][]byte{
		{}, {1}, {1, 0}, {2, 0}, {2, 0, 0}, {2, 0, 1}, {2, 0, 127}, {2, 255, 128}, {2, 255, 255}, {3, 0, 127, 255}, {3, 255, 128, 0}, {3, 1, 1},
		{4, 0, 0, 0, 1}, {8, 0, 1, 1, 1, 1, 1, 1, 1}, {8, 0, 127, 255, 255, 255, 255, 255, 255}, {8, 255, 128, 0, 0, 0, 0, 0, 0}, {8, 1, 1, 1, 1, 1, 1, 1},
		{9, 1, 1, 1, 1, 1, 1, 1, 1, 1}, {9, 0, 128, 0, 0, 0, 0, 0, 0, 0}, {128, 1}, {255, 255},
	} {
		r := wire.New(b)
		if n := r.Int(); n != 0 || r.Left() != len(b) || r.End() != api.ErrForm {
			t.Errorf("%v is read as %d, with %d bytes left, %s", b, n, r.Left(), r.End().Name())
		}
	}
}

// P1.3 and P1.4: of different values of one type, neither encoding is equal to the other one or starts with it.
func TestDifferentEncodings(t *testing.T) {
	for _, k := range kinds() {
		for i, v := range k.samples {
			for j, w := range k.samples {
				if !same(v, w) && bytes.HasPrefix(k.encode(nil, v), k.encode(nil, w)) {
					t.Errorf("%s: the encoding of sample %d starts with that of sample %d", k.name, i, j)
				}
			}
		}
	}
}

// P1.4: no proper prefix of an encoding is read.
func TestPrefixes(t *testing.T) {
	for _, k := range kinds() {
		for _, v := range k.samples {
			b := k.encode(nil, v)
			for n := range b {
				r := wire.New(b[:n])
				if w := k.read(r); !same(w, k.zero) || r.Left() != n || r.End() != api.ErrForm {
					t.Errorf("%s of the first %d bytes of %v: %v, with %d bytes left, %s", k.name, n, b, w, r.Left(), r.End().Name())
				}
			}
		}
	}
}
