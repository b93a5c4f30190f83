package lex_test

import (
	"slices"
	"strings"
	"testing"

	"fretsaw/api"
	"fretsaw/lex"
)

// check compares the result for a source with what it should be.
func check(t *testing.T, s string, want []lex.Token, wantAt int, wantError api.Errno) {
	t.Helper()
	l, at, e := lex.Tokens(s)
	if !slices.Equal(l, want) || at != wantAt || e != wantError {
		t.Errorf("%.50q: %v, %d, %s, want %v, %d, %s", s, l, at, e.Name(), want, wantAt, wantError.Name())
	}
}

// checkModel compares the result for a source with that of the model.
func checkModel(t *testing.T, s string) {
	t.Helper()
	want, at, e := slowTokens(s)
	check(t, s, want, at, e)
}

// P4.1: the kinds are the untyped numbers 1, 2 and 3.
func TestKinds(t *testing.T) {
	var narrow int8 = lex.Name
	if narrow != 1 || lex.Number != 2 || lex.Mark != 3 {
		t.Errorf("the kinds are %d, %d, %d", lex.Name, lex.Number, lex.Mark)
	}
}

// P4.1: the examples of the chapter.
func TestExamples(t *testing.T) {
	check(t, "part a { -12 }", []lex.Token{
		{Kind: lex.Name, Text: "part", At: 0}, {Kind: lex.Name, Text: "a", At: 5}, {Kind: lex.Mark, Text: "{", At: 7},
		{Kind: lex.Number, N: -12, At: 9}, {Kind: lex.Mark, Text: "}", At: 13},
	}, 0, api.OK)
	check(t, "a 1b", nil, 2, api.ErrSyntax)
}

// P4.1: tokens that touch each other.
func TestAdjacentTokens(t *testing.T) {
	check(t, "a1{2-3,-4(0)b;c=-5:d}", []lex.Token{
		{Kind: lex.Name, Text: "a1", At: 0}, {Kind: lex.Mark, Text: "{", At: 2}, {Kind: lex.Number, N: 2, At: 3}, {Kind: lex.Number, N: -3, At: 4},
		{Kind: lex.Mark, Text: ",", At: 6}, {Kind: lex.Number, N: -4, At: 7}, {Kind: lex.Mark, Text: "(", At: 9}, {Kind: lex.Number, N: 0, At: 10},
		{Kind: lex.Mark, Text: ")", At: 11}, {Kind: lex.Name, Text: "b", At: 12}, {Kind: lex.Mark, Text: ";", At: 13}, {Kind: lex.Name, Text: "c", At: 14},
		{Kind: lex.Mark, Text: "=", At: 15}, {Kind: lex.Number, N: -5, At: 16}, {Kind: lex.Mark, Text: ":", At: 18}, {Kind: lex.Name, Text: "d", At: 19}, {Kind: lex.Mark, Text: "}", At: 20},
	}, 0, api.OK)
	check(t, "a-1", []lex.Token{{Kind: lex.Name, Text: "a"}, {Kind: lex.Number, N: -1, At: 1}}, 0, api.OK)
	check(t, "1#b\nb", []lex.Token{{Kind: lex.Number, N: 1}, {Kind: lex.Name, Text: "b", At: 4}}, 0, api.OK)
}

// P4.1: sources without tokens.
func TestNoTokens(t *testing.T) {
	for _, s := range []string{"", " ", "\t", "\n", " \t\n \t\n", "#", "##", "# a 1b _ ?", "#\n", "#a\n#b\n", "\t# a\n \n# \xff", "#\r\t-"} {
		check(t, s, nil, 0, api.OK)
	}
}

// P4.1: a comment extends to the next line feed, or to the end of the source, and to nothing else.
func TestComments(t *testing.T) {
	a, b := lex.Token{Kind: lex.Name, Text: "a"}, lex.Token{Kind: lex.Name, Text: "b"}
	for s, want := range map[string][]lex.Token{
		"a#b": {a}, "a # b": {a}, "a#": {a}, "a#\rb": {a}, "a#\vb": {a}, "a#\x00b": {a}, "a#\u2028b": {a}, "a#\u0085b": {a}, "a#}b": {a}, "a#b#": {a}, "a\n#b\n": {a},
		"#\na": {a}, "#b\n\na": {a}, "a#\nb": {a, b}, "a#b\nb": {a, b}, "a##b#b\n#\n#b\nb": {a, b}, "a#?\nb#?": {a, b},
	} {
		l, at, e := lex.Tokens(s)
		if !slices.Equal(withoutOffsets(l), want) || at != 0 || e != api.OK {
			t.Errorf("%q: %v, %d, %s, want %v", s, l, at, e.Name(), want)
		}
	}
}

// P4.1: names, and words that are too long.
func TestNames(t *testing.T) {
	for _, s := range []string{"a", "z", "A", "Z", "a_", "a__", "a0", "z9", "Z_9", "S235", "part", "abcdefghijklmnop", "ABCDEFGHIJKLMNOP", "a123456789012345", "a_______________"} {
		check(t, s, []lex.Token{{Kind: lex.Name, Text: s}}, 0, api.OK)
		check(t, " "+s+"{", []lex.Token{{Kind: lex.Name, Text: s, At: 1}, {Kind: lex.Mark, Text: "{", At: 1 + len(s)}}, 0, api.OK)
	}
	for _, s := range []string{"abcdefghijklmnopq", "ABCDEFGHIJKLMNOPQ", "a1234567890123456", "a________________", "abcdefghijklmnop_", strings.Repeat("n", 32), strings.Repeat("n", 300)} {
		check(t, s, nil, 0, api.ErrLimit)
		check(t, "(3)\n"+s+" ?", nil, 4, api.ErrLimit)
	}
}

// P4.1: numbers, at the bounds of each number of digits.
func TestNumbers(t *testing.T) {
	for s, n := range map[string]int{
		"0": 0, "1": 1, "9": 9, "-1": -1, "-9": -9, "10": 10, "-10": -10, "100": 100, "12345": 12345, "100000000": 100000000,
		"123456789": 123456789, "-123456789": -123456789, "999999999": 999999999, "-999999999": -999999999, "900000001": 900000001,
	} {
		check(t, s, []lex.Token{{Kind: lex.Number, N: n}}, 0, api.OK)
		check(t, "a "+s+"=", []lex.Token{{Kind: lex.Name, Text: "a"}, {Kind: lex.Number, N: n, At: 2}, {Kind: lex.Mark, Text: "=", At: 2 + len(s)}}, 0, api.OK)
	}
}

// P4.1: wrong numbers; the error is ErrLimit only if nothing but the number of the digits is wrong.
func TestWrongNumbers(t *testing.T) {
	for s, want := range map[string]api.Errno{
		"-": api.ErrSyntax, "--": api.ErrSyntax, "--1": api.ErrSyntax, "-a": api.ErrSyntax, "-_": api.ErrSyntax, "- 1": api.ErrSyntax, "-\n": api.ErrSyntax, "-{": api.ErrSyntax,
		"00": api.ErrSyntax, "01": api.ErrSyntax, "09": api.ErrSyntax, "-0": api.ErrSyntax, "-00": api.ErrSyntax, "-01": api.ErrSyntax,
		"1a": api.ErrSyntax, "1Z": api.ErrSyntax, "1_": api.ErrSyntax, "0a": api.ErrSyntax, "0_": api.ErrSyntax, "-1a": api.ErrSyntax, "999999999z": api.ErrSyntax, "-999999999_": api.ErrSyntax,
		"000000000": api.ErrSyntax, "0000000000": api.ErrSyntax, "0123456789": api.ErrSyntax, "-0123456789": api.ErrSyntax, "-0000000000": api.ErrSyntax,
		"1234567890a": api.ErrSyntax, "1234567890_": api.ErrSyntax, "-1234567890A": api.ErrSyntax, "0123456789a": api.ErrSyntax,
		"1000000000": api.ErrLimit, "1234567890": api.ErrLimit, "-1234567890": api.ErrLimit, "9999999999": api.ErrLimit, "1234567890-": api.ErrLimit, "1234567890?": api.ErrLimit,
		"9223372036854775807": api.ErrLimit, "9223372036854775808": api.ErrLimit, "18446744073709551617": api.ErrLimit, "-" + strings.Repeat("1", 300): api.ErrLimit,
	} {
		check(t, s, nil, 0, want)
		check(t, "a\t#\n; "+s, nil, 6, want)
		check(t, s+" ?", nil, 0, want)
	}
}

// P4.1: the offset is that of the token that is wrong, not that of the byte; the first wrong token counts.
func TestOffsetsOfErrors(t *testing.T) {
	for s, at := range map[string]int{
		"?": 0, "a?": 1, "a ?": 2, "a 12b": 2, "a -12b c": 2, "a b 007": 4, "{-}": 1, "1--2": 1, "1-02": 1, "ab _c": 3, "1 # ?\n?": 6, "# ?\n#\n\t(_": 8,
		"00 abcdefghijklmnopq": 0, "1 00 1234567890": 2, "_ ?": 0, "a\r\nb": 1, "é": 0, "a é": 2,
	} {
		check(t, s, nil, at, api.ErrSyntax)
	}
	for s, at := range map[string]int{"1234567890 00": 0, "x abcdefghijklmnopq _": 2, "{1234567890}?": 1, "a\nabcdefghijklmnopq\r": 2} {
		check(t, s, nil, at, api.ErrLimit)
	}
}

// P4.1: each byte alone, behind a blank, a name, a number, a minus sign and a mark, and in front of them.
func TestEachByte(t *testing.T) {
	for c := range 256 {
		b := string([]byte{byte(c)})
		for _, s := range []string{"", " ", "a", "a ", "1", "1 ", "-", "-1", "0", "{", "#", "#\n", "abcdefghijklmnop", "123456789", "1234567890"} {
			checkModel(t, s+b)
			checkModel(t, b+s)
			checkModel(t, s+b+s)
		}
	}
	for c := range 256 {
		b := string([]byte{byte(c)})
		l, at, e := lex.Tokens(b)
		isMark := strings.Contains("{}(),;:=", b)
		if isMark != (len(l) == 1 && l[0] == lex.Token{Kind: lex.Mark, Text: b}) || at != 0 || e != api.OK && e != api.ErrSyntax {
			t.Errorf("%q: %v, %d, %s", b, l, at, e.Name())
		}
	}
}

// P4.1: all short sources, and the samples.
func TestSources(t *testing.T) {
	for s := range shortSources(5) {
		checkModel(t, s)
	}
	for _, s := range validSources() {
		checkModel(t, s)
		if _, _, e := lex.Tokens(s); e != api.OK {
			t.Errorf("%.50q: %s", s, e.Name())
		}
	}
	for _, s := range invalidSources() {
		checkModel(t, s)
		if l, _, e := lex.Tokens(s); len(l) != 0 || e == api.OK {
			t.Errorf("%.50q: %v, %s", s, l, e.Name())
		}
	}
}

// P4.1: a source has at most 20000 bytes, whatever they are; a longer one is not read at all.
func TestSizesOfSources(t *testing.T) {
	for _, s := range []string{" ", "\n", "#", "{", "a ", "7\n", "-1", "x#\n"} {
		long := strings.Repeat(s, 20001)
		checkModel(t, long[:20000])
		if _, _, e := lex.Tokens(long[:20000]); e != api.OK {
			t.Errorf("20000 bytes of %q: %s", s, e.Name())
		}
		check(t, long[:20001], nil, 0, api.ErrLimit)
		check(t, long, nil, 0, api.ErrLimit)
		check(t, "1b"+long, nil, 0, api.ErrLimit)
		check(t, long[:20000]+"?", nil, 0, api.ErrLimit)
	}
	blanks := strings.Repeat(" ", 19999)
	check(t, blanks+"=", []lex.Token{{Kind: lex.Mark, Text: "=", At: 19999}}, 0, api.OK)
	check(t, blanks+"_", nil, 19999, api.ErrSyntax)
	check(t, blanks[1:]+"-0", nil, 19998, api.ErrSyntax)
	check(t, "_"+blanks, nil, 0, api.ErrSyntax)
	check(t, " _"+blanks, nil, 0, api.ErrLimit)
}
