package digest_test

import (
	"bytes"
	"math"
	"strings"
)

// byteSamples has nothing, single bytes, texts, bytes that are no UTF-8, and lengths around that of a checksum.
func byteSamples() [][]byte {
	l := [][]byte{
		nil, {}, {0}, {1}, {2}, {127}, {128}, {255}, {0, 0}, {0, 1}, {1, 0}, {1, 1}, {255, 254}, {0xc3, 0x28}, {0xed, 0xa0, 0x80},
		[]byte("a"), []byte("ab"), []byte("ba"), []byte("fretsaw"), []byte("Blech Ω"), []byte(strings.Repeat("fretsaw ", 40)), allBytes(),
	}
	for n := 3; n <= 17; n++ {
		l = append(l, make([]byte, n), bytes.Repeat([]byte{255}, n), allBytes()[n:2*n])
	}
	return l
}

func allBytes() []byte {
	b := make([]byte, 256)
	for i := range b {
		b[i] = byte(i)
	}
	return b
}

// numberSamples has the powers of two with their neighbours, so that each bit and each digit occurs alone.
func numberSamples() []uint64 {
	l := []uint64{0, math.MaxUint64, 0x0123456789abcdef, 0xfedcba9876543210, 11400714819323198485, 0x9e3779bd8ef1b1de}
	for bit := range 64 {
		power := uint64(1) << bit
		l = append(l, power, power-1, power+1, ^power, 0x9e3779b97f4a7c15^power)
	}
	return l
}
