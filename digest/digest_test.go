package digest_test

import (
	"bytes"
	"encoding/binary"
	"math"
	"math/big"
	"testing"

	"fretsaw/api"
	"fretsaw/digest"
)

// slowFrom computes a checksum with whole numbers, of which the lower 64 bits are kept.
func slowFrom(seed uint64, b []byte) uint64 {
	size := new(big.Int).Lsh(big.NewInt(1), 64)
	factor, _ := new(big.Int).SetString("11400714819323198485", 10)
	h := new(big.Int).SetUint64(seed)
	for _, c := range b {
		h.Xor(h, big.NewInt(int64(c)))
		h.Mod(h.Mul(h, factor), size)
		h.Xor(h, new(big.Int).Div(h, big.NewInt(1<<29)))
	}
	return h.Uint64()
}

// P2.1: known checksums.
func TestKnownChecksums(t *testing.T) {
	for _, c := range []struct {
		seed uint64
		b    []byte
		want uint64
	}{
		{1, nil, 1}, {1, []byte{}, 1},
		{1, []byte{0}, 0x9e3779bd8ef1b1de}, {1, []byte{1}, 0}, {1, []byte{1, 0, 0, 0}, 0},
		{1, []byte{2}, 0xdaa66d2aa8ec1d5c}, {1, []byte{255}, 0xfb0ac60b93b12cb4},
		{1, []byte("a"), 0x54cda58d1d83ab9d}, {1, []byte("ab"), 0x53b99b8bf61e43a0}, {1, []byte("ba"), 0xf7692ba76051f30d},
		{1, []byte("fretsaw"), 0x7bd3d50943562d95}, {1, []byte("fretsaw\x00"), 0x167b8b93efebb5a3},
		{1, allBytes(), 0x4e92a7bfb37a0087}, {1, make([]byte, 100), 0x490ffab6803dc667},
		{0, nil, 0}, {0, []byte{0}, 0}, {0, []byte{128}, 0x1bbcdcbf78d8ef7d},
		{math.MaxUint64, nil, math.MaxUint64}, {math.MaxUint64, []byte{0}, 0x61c886458ef1b1df}, {math.MaxUint64, []byte{255, 254}, 0x976bc10b84fcfbee},
		{1 << 63, []byte{0}, 0x8000000400000000}, {1 << 63, []byte("sheet"), 0xf363ddbf1599b2eb},
	} {
		if h := digest.From(c.seed, c.b); h != c.want {
			t.Errorf("the checksum of %v from %x is %x, want %x", c.b, c.seed, h, c.want)
		}
		if h := digest.Of(c.b); c.seed == digest.Seed && h != c.want {
			t.Errorf("the checksum of %v is %x, want %x", c.b, h, c.want)
		}
	}
}

// P2.1: the checksums of all samples are those of the definition.
func TestChecksums(t *testing.T) {
	for _, b := range byteSamples() {
		if h, want := digest.Of(b), slowFrom(1, b); h != want {
			t.Errorf("the checksum of %v is %x, want %x", b, h, want)
		}
		for _, seed := range numberSamples()[:20] {
			if h, want := digest.From(seed, b), slowFrom(seed, b); h != want {
				t.Errorf("the checksum of %v from %x is %x, want %x", b, seed, h, want)
			}
		}
	}
	for _, seed := range numberSamples() {
		for _, b := range [][]byte{{0}, {255}, {5, 128}} {
			if h, want := digest.From(seed, b), slowFrom(seed, b); h != want {
				t.Errorf("the checksum of %v from %x is %x, want %x", b, seed, h, want)
			}
		}
	}
}

// P2.1: the seed is an untyped 1.
func TestSeed(t *testing.T) {
	var narrow int8 = digest.Seed
	if narrow != 1 || digest.From(digest.Seed, []byte("x")) != digest.Of([]byte("x")) {
		t.Error("the seed is not 1")
	}
}

// P2.2: the checksum of nothing is the seed, and a checksum continues another one.
func TestChaining(t *testing.T) {
	for _, seed := range numberSamples() {
		if digest.From(seed, nil) != seed || digest.From(seed, []byte{}) != seed {
			t.Errorf("the checksum of nothing from %x is not the seed", seed)
		}
	}
	if digest.Of(nil) != 1 || digest.Of([]byte{}) != 1 {
		t.Error("the checksum of nothing is not 1")
	}
	for _, seed := range []uint64{0, 1, 2, 1 << 63, math.MaxUint64} {
		for _, ab := range byteSamples() {
			want := digest.From(seed, ab)
			for cut := 0; cut <= len(ab); cut++ {
				if h := digest.From(digest.From(seed, ab[:cut]), ab[cut:]); h != want {
					t.Fatalf("%v from %x: %x behind a cut at %d, want %x", ab, seed, h, cut, want)
				}
			}
		}
	}
}

// P2.3: each change of one byte changes the checksum, and the sealed byte string is refused.
func TestOneByte(t *testing.T) {
	for _, b := range byteSamples() {
		if len(b) > 20 {
			continue
		}
		for _, seed := range []uint64{0, 1, 77, 1 << 63, math.MaxUint64} {
			checkChecksumChanges(t, seed, b)
		}
		checkSealedChanges(t, b)
	}
	long := allBytes()
	for i := range long {
		long[i] ^= 1 << (i % 8)
		if digest.Of(long) == digest.Of(allBytes()) {
			t.Errorf("the checksum does not change with byte %d of 256", i)
		}
		long[i] = byte(i)
	}
}

func checkChecksumChanges(t *testing.T, seed uint64, b []byte) {
	h := digest.From(seed, b)
	changed := bytes.Clone(b)
	for i := range changed {
		for x := 1; x < 256; x++ {
			changed[i] = b[i] ^ byte(x)
			if digest.From(seed, changed) == h {
				t.Fatalf("%v and %v have the same checksum from %x", b, changed, seed)
			}
		}
		changed[i] = b[i]
	}
}

func checkSealedChanges(t *testing.T, payload []byte) {
	sealed := digest.Seal(payload)
	changed := bytes.Clone(sealed)
	for i := range changed {
		for x := 1; x < 256; x++ {
			changed[i] = sealed[i] ^ byte(x)
			if got, e := digest.Open(changed); len(got) != 0 || e != api.ErrSum {
				t.Fatalf("%v is opened as %v, %s", changed, got, e.Name())
			}
		}
		changed[i] = sealed[i]
	}
}

// P2.1: the bytes of sealed byte strings.
func TestSeal(t *testing.T) {
	for _, c := range []struct{ payload, want []byte }{
		{nil, []byte{0, 0, 0, 0, 0, 0, 0, 1}},
		{[]byte{}, []byte{0, 0, 0, 0, 0, 0, 0, 1}},
		{[]byte{1}, []byte{1, 0, 0, 0, 0, 0, 0, 0, 0}},
		{[]byte{0}, []byte{0, 0x9e, 0x37, 0x79, 0xbd, 0x8e, 0xf1, 0xb1, 0xde}},
		{[]byte("ab"), []byte{'a', 'b', 0x53, 0xb9, 0x9b, 0x8b, 0xf6, 0x1e, 0x43, 0xa0}},
	} {
		if b := digest.Seal(c.payload); !bytes.Equal(b, c.want) {
			t.Errorf("%v is sealed as %v, want %v", c.payload, b, c.want)
		}
	}
	for _, payload := range byteSamples() {
		want := binary.BigEndian.AppendUint64(bytes.Clone(payload), slowFrom(1, payload))
		if b := digest.Seal(payload); !bytes.Equal(b, want) {
			t.Errorf("%v is sealed as %v, want %v", payload, b, want)
		}
	}
}

// P2.1: fewer than 8 bytes have no checksum, even if they are the end or the start of a sealed byte string.
func TestOpenShort(t *testing.T) {
	sealed := digest.Seal(nil)
	for n := range 8 {
		for _, b := range [][]byte{sealed[:n], sealed[8-n:], make([]byte, n), bytes.Repeat([]byte{255}, n)} {
			if payload, e := digest.Open(b); len(payload) != 0 || e != api.ErrForm {
				t.Errorf("%v is opened as %v, %s", b, payload, e.Name())
			}
		}
	}
	if payload, e := digest.Open(nil); len(payload) != 0 || e != api.ErrForm {
		t.Errorf("nothing is opened as %v, %s", payload, e.Name())
	}
}

// P2.1: the checksum must be that of the payload, behind it, from the seed 1, with its most significant byte first.
func TestOpenWrongSum(t *testing.T) {
	payload := []byte("fretsaw")
	sum := digest.Of(payload)
	for name, b := range map[string][]byte{
		"eight bytes 0":       make([]byte, 8),
		"nothing, from 0":     binary.BigEndian.AppendUint64(nil, 0),
		"nothing, reversed":   {1, 0, 0, 0, 0, 0, 0, 0},
		"payload, reversed":   binary.LittleEndian.AppendUint64(bytes.Clone(payload), sum),
		"payload, in front":   append(binary.BigEndian.AppendUint64(nil, sum), payload...),
		"payload, other seed": binary.BigEndian.AppendUint64(bytes.Clone(payload), digest.From(0, payload)),
		"a byte in front":     append([]byte{0}, digest.Seal(payload)...),
		"a byte behind":       append(digest.Seal(payload), 0),
		"a byte less":         digest.Seal(payload)[:len(payload)+7],
		"first byte less":     digest.Seal(payload)[1:],
	} {
		if got, e := digest.Open(b); len(got) != 0 || e != api.ErrSum {
			t.Errorf("%s: %v is opened as %v, %s", name, b, got, e.Name())
		}
	}
}

// P2.4: what was sealed is opened, also if it was sealed twice.
func TestOpenOfSeal(t *testing.T) {
	for _, payload := range byteSamples() {
		sealed := digest.Seal(payload)
		got, e := digest.Open(sealed)
		if e != api.OK || !bytes.Equal(got, payload) {
			t.Errorf("%v is opened as %v, %s", sealed, got, e.Name())
		}
		inner, e := digest.Open(digest.Seal(sealed))
		if e != api.OK || !bytes.Equal(inner, sealed) {
			t.Errorf("%v, sealed again, is opened as %v, %s", sealed, inner, e.Name())
		}
	}
}

// P2.4: what is opened is the result of Seal. Payloads are tried with the right and with other checksums.
func TestSealOfOpen(t *testing.T) {
	accepted := 0
	for _, payload := range byteSamples() {
		for _, other := range byteSamples() {
			b := binary.BigEndian.AppendUint64(bytes.Clone(payload), digest.Of(other))
			got, e := digest.Open(b)
			if (e == api.OK) != (digest.Of(other) == digest.Of(payload)) {
				t.Errorf("%v is opened with %s", b, e.Name())
			}
			if e != api.OK {
				continue
			}
			accepted++
			if !bytes.Equal(digest.Seal(got), b) {
				t.Errorf("%v is opened as %v, which is sealed as %v", b, got, digest.Seal(got))
			}
		}
	}
	if accepted < len(byteSamples()) {
		t.Errorf("only %d are accepted", accepted)
	}
}

// unstep returns the number in front of a step. That there is always exactly one proves that steps keep numbers apart.
func unstep(h uint64, c byte) uint64 {
	inverse := uint64(1)
	for range 6 {
		inverse *= 2 - inverse*11400714819323198485
	}
	h ^= h>>29 ^ h>>58
	return h*inverse ^ uint64(c)
}

// P2.5: the seed can be computed from the checksum, so that no two seeds have the same one.
func TestSeeds(t *testing.T) {
	for _, b := range byteSamples() {
		seen := map[uint64]uint64{}
		for _, seed := range numberSamples() {
			h := digest.From(seed, b)
			if other, ok := seen[h]; ok && other != seed {
				t.Fatalf("%v has the checksum %x from %x and from %x", b, h, seed, other)
			}
			seen[h] = seed
			for i := len(b) - 1; i >= 0; i-- {
				h = unstep(h, b[i])
			}
			if h != seed {
				t.Fatalf("the checksum of %v from %x leads back to %x", b, seed, h)
			}
		}
	}
}

// P1: arguments are not modified, and the same calls lead to the same results.
func TestArgumentsUnchanged(t *testing.T) {
	for _, b := range byteSamples() {
		spare := append(bytes.Clone(b), 1, 2, 3, 4, 5, 6, 7, 8, 9)
		kept := bytes.Clone(spare)
		part := spare[:len(b)]
		sealed := digest.Seal(part)
		if !bytes.Equal(sealed, digest.Seal(part)) || digest.Of(part) != digest.Of(part) || digest.From(9, part) != digest.From(9, part) {
			t.Errorf("%v leads to different results", b)
		}
		copied := bytes.Clone(sealed)
		first, _ := digest.Open(sealed)
		second, _ := digest.Open(sealed)
		if !bytes.Equal(first, second) || !bytes.Equal(sealed, copied) || !bytes.Equal(spare, kept) {
			t.Errorf("%v was modified, or leads to different results", b)
		}
	}
}

// P1: a result shares no memory with the argument, nor with what lies behind it in its capacity.
func TestResultsShareNothing(t *testing.T) {
	for _, b := range byteSamples() {
		payload := append(bytes.Clone(b), bytes.Repeat([]byte{7}, 20)...)[:len(b)]
		sealed := digest.Seal(payload)
		kept := bytes.Clone(sealed)
		invert(payload[:cap(payload)])
		if !bytes.Equal(sealed, kept) {
			t.Errorf("the sealed byte string of %v changes with the payload", b)
		}
		opened, _ := digest.Open(sealed)
		invert(sealed)
		if !bytes.Equal(opened, b) {
			t.Errorf("the payload %v changes with the sealed byte string", b)
		}
		again := bytes.Clone(kept)
		opened, _ = digest.Open(again)
		invert(opened[:cap(opened)])
		_ = append(opened, 99)
		if !bytes.Equal(again, kept) {
			t.Errorf("the sealed byte string of %v changes with its payload", b)
		}
	}
}

func invert(b []byte) {
	for i := range b {
		b[i] ^= 255
	}
}
