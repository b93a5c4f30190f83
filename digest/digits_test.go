package digest_test

import (
	"fmt"
	"strings"
	"testing"

	"fretsaw/api"
	"fretsaw/digest"
)

// P2.1: the digits of numbers.
func TestDigits(t *testing.T) {
	for h, want := range map[uint64]string{
		0: "0000000000000000", 1: "0000000000000001", 9: "0000000000000009", 10: "000000000000000a", 15: "000000000000000f", 16: "0000000000000010",
		0x0123456789abcdef: "0123456789abcdef", 0xfedcba9876543210: "fedcba9876543210", 1 << 63: "8000000000000000", 1<<64 - 1: "ffffffffffffffff",
	} {
		if s := digest.Digits(h); s != want {
			t.Errorf("the digits of %d are %q, want %q", h, s, want)
		}
		if n, e := digest.Parse(want); n != h || e != api.OK {
			t.Errorf("%q is parsed as %x, %s", want, n, e.Name())
		}
	}
}

// P2.4: numbers are parsed from their digits.
func TestParseOfDigits(t *testing.T) {
	for _, h := range numberSamples() {
		s := digest.Digits(h)
		if want := fmt.Sprintf("%016x", h); s != want {
			t.Errorf("the digits of %d are %q, want %q", h, s, want)
		}
		if n, e := digest.Parse(s); n != h || e != api.OK {
			t.Errorf("%q is parsed as %x, %s", s, n, e.Name())
		}
	}
}

// P2.1 and P2.4: only the 16 digits are accepted at each place, and what is accepted are the digits of the number.
func TestParseEachByte(t *testing.T) {
	for _, base := range []string{"0000000000000000", "0123456789abcdef", "ffffffffffffffff"} {
		for i := range base {
			for c := range 256 {
				s := base[:i] + string([]byte{byte(c)}) + base[i+1:]
				checkParse(t, s, strings.IndexByte("0123456789abcdef", byte(c)) >= 0)
			}
		}
	}
}

func checkParse(t *testing.T, s string, valid bool) {
	t.Helper()
	h, e := digest.Parse(s)
	if valid && (e != api.OK || digest.Digits(h) != s) {
		t.Errorf("%q is parsed as %x, %s", s, h, e.Name())
	}
	if !valid && (e != api.ErrSyntax || h != 0) {
		t.Errorf("%q is parsed as %x, %s; want a syntax error", s, h, e.Name())
	}
}

// P2.1: texts of other lengths, also if they have 16 runes, and texts of 16 bytes with others than digits.
func TestParseInvalid(t *testing.T) {
	for n := range 40 {
		checkParse(t, strings.Repeat("1", n), n == 16)
		checkParse(t, strings.Repeat("A", n), false)
		checkParse(t, strings.Repeat("\xff", n), false)
		checkParse(t, strings.Repeat("é", n), false)
	}
	for _, s := range []string{
		"00000000000000FF", "0123456789ABCDEF", "0x00000000000001", "-000000000000001", "+000000000000001", " 000000000000001", "000000000000001 ", "00000000_0000001",
		"000000000000001\n", "0000000000000001\n", "\x000000000000000001", "000000000000000g", "000000000000000/", "000000000000000:", "000000000000000`",
		"00000000000000\xc3\x28", "000000000000000\x80", "\xff000000000000000", "0000000000000\xed\xa0\x80", "0000000000000\uFFFD", "0000000000000001\xff",
		"00000000000000\u00e9", "000000000000000\u00e9", "0000000000000\uff11", "000000000000000\uff11", "00000000000000\u0661", "000000000000\U0001d7ce",
		"00000000000000\u0130", "00000000000000\u0161", "0000000000000\u1e61", "0000000000000\u2061",
	} {
		checkParse(t, s, false)
	}
}

// P1: the digits and the numbers are the same in each call.
func TestDigitsAgain(t *testing.T) {
	first := digest.Digits(0xabc)
	digest.Digits(0)
	if digest.Digits(0xabc) != first || first != "0000000000000abc" {
		t.Errorf("the digits of abc are %q, then %q", first, digest.Digits(0xabc))
	}
}
