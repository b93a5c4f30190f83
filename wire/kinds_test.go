package wire_test

import (
	"fmt"
	"math"
	"strings"

	"fretsaw/api"
	"fretsaw/wire"
)

// kind has what the tests need to treat the values of one type: samples of them, how they are encoded and how they are read.
type kind struct {
	name    string
	encode  func(b []byte, v any) []byte
	read    func(r *wire.Reader) any
	zero    any
	samples []any
}

func kindOf[T any](name string, encode func(b []byte, v T) []byte, read func(r *wire.Reader) T, samples ...T) kind {
	var zero T
	k := kind{name: name, zero: zero}
	k.encode = func(b []byte, v any) []byte { return encode(b, v.(T)) }
	k.read = func(r *wire.Reader) any { return read(r) }
	for _, v := range samples {
		k.samples = append(k.samples, v)
	}
	return k
}

// same compares two values of one kind; nil and empty lists are equal.
func same(v, w any) bool {
	return fmt.Sprint(v) == fmt.Sprint(w)
}

// noLimit is a limit that no sample exceeds.
const noLimit = math.MaxInt

func kinds() []kind {
	long := strings.Repeat("fretsaw ", 40)
	return []kind{
		kindOf("Int", wire.Int, (*wire.Reader).Int, intSamples()...),
		kindOf("Bounded", wire.Int, func(r *wire.Reader) int { return r.Bounded(math.MinInt, math.MaxInt) }, intSamples()...),
		kindOf("Bool", wire.Bool, (*wire.Reader).Bool, false, true),
		kindOf("Text", wire.Text, func(r *wire.Reader) string { return r.Text(noLimit) }, "", "a", "ab", "b", "\x00", "\xff\x00", "Blech Ω", long),
		kindOf("Bytes", wire.Bytes, func(r *wire.Reader) []byte { return r.Bytes(noLimit) }, nil, []byte{0}, []byte{0, 0}, []byte{1, 2, 3}, []byte(long)),
		kindOf("Ints", wire.Ints, func(r *wire.Reader) []int { return r.Ints(noLimit) }, nil, []int{0}, []int{0, 0}, []int{1, -1, 128}, intSamples(), make([]int, 200)),
		kindOf("Vec", wire.Vec, (*wire.Reader).Vec, vecSamples()...),
		kindOf("Ring", wire.Ring, func(r *wire.Reader) api.Ring { return r.Ring(noLimit) }, ringSamples()...),
		kindOf("Shape", wire.Shape, (*wire.Reader).Shape, shapeSamples()...),
		kindOf("Ratio", wire.Ratio, (*wire.Reader).Ratio, api.Ratio{}, api.Ratio{Num: 1, Den: 2}, api.Ratio{Num: 2, Den: 1}, api.Ratio{Num: -6, Den: -4}, api.Ratio{Num: math.MinInt, Den: math.MaxInt}),
	}
}

// intSamples has the integers on both sides of each bound between two sizes, and some within.
func intSamples() []int {
	l := []int{0, 1, -1, 2, 100, 255, 256, -256, 2000, 1000000, math.MaxInt, math.MaxInt - 1, math.MinInt, math.MinInt + 1}
	for size := 1; size < 8; size++ {
		bound := 1 << (8*size - 1)
		l = append(l, bound-1, bound, bound+1, -bound-1, -bound, -bound+1)
	}
	return l
}

func vecSamples() []api.Vec {
	return []api.Vec{{}, {X: 3}, {Y: 3}, {X: -1, Y: 128}, {X: 128, Y: -1}, {X: math.MaxInt, Y: math.MinInt}}
}

func ringSamples() []api.Ring {
	return []api.Ring{nil, {{}}, {{}, {}}, {{X: 1, Y: -1}}, vecSamples(), make(api.Ring, api.MaxVertices), make(api.Ring, api.MaxVertices+1), make(api.Ring, 300)}
}

func shapeSamples() []api.Shape {
	square := api.Ring{{X: 0, Y: 0}, {X: 4, Y: 0}, {X: 4, Y: 4}, {X: 0, Y: 4}}
	return []api.Shape{
		{},
		{Outer: square},
		{Holes: []api.Ring{square}},
		{Holes: []api.Ring{nil}},
		{Outer: square, Holes: []api.Ring{nil, {{X: 1, Y: 1}}, vecSamples()}},
		{Outer: make(api.Ring, api.MaxVertices), Holes: fullHoles()},
	}
}

// fullHoles has as many holes as may be read, with as many vertices.
func fullHoles() []api.Ring {
	l := make([]api.Ring, api.MaxHoles)
	for i := range l {
		l[i] = make(api.Ring, api.MaxVertices)
	}
	return l
}

// shortStrings calls visit with all byte strings of at most n bytes that are made of a few critical bytes.
func shortStrings(n int, visit func(b []byte)) {
	shortStringsFrom(nil, n, visit)
}

func shortStringsFrom(b []byte, n int, visit func(b []byte)) {
	visit(b)
	if n == 0 {
		return
	}
	for _, c := range []byte{0, 1, 2, 3, 7, 8, 9, 127, 128, 255} {
		shortStringsFrom(append(b[:len(b):len(b)], c), n-1, visit)
	}
}
