package lex_test

import (
	"math"
	"strings"
	"testing"

	"fretsaw/lex"
)

// P4.1: names have 1 to 16 bytes, of which the first one is a letter.
func TestIsName(t *testing.T) {
	for _, s := range []string{"a", "z", "A", "Z", "a_", "a0", "Z9_", "S235", "abcdefghijklmnop", "ABCDEFGHIJKLMNO_", "a_______________"} {
		if !lex.IsName(s) {
			t.Errorf("%q is no name", s)
		}
	}
	for _, s := range []string{
		"", " ", "_", "_a", "0", "1a", "-a", "a ", " a", "a b", "a\n", "\na", "a#", "a{", "{", "a-", "a-b", "a.b", "é", "aé", "a\xff", "\xff", "a\x00", "Ω",
		"abcdefghijklmnopq", "a________________", strings.Repeat("a", 300), strings.Repeat("a", 20001),
	} {
		if lex.IsName(s) {
			t.Errorf("%q is a name", s)
		}
	}
}

// P4.1: each byte as a name, and at each place of one.
func TestIsNameEachByte(t *testing.T) {
	for c := range 256 {
		b := string([]byte{byte(c)})
		for _, base := range []string{"a", "ab", "Abcdefgh_1234567"} {
			for i := range base {
				s := base[:i] + b + base[i+1:]
				if lex.IsName(s) != name.MatchString(s) {
					t.Errorf("%q is a name: %v", s, lex.IsName(s))
				}
			}
		}
	}
	for s := range shortSources(4) {
		if lex.IsName(s) != name.MatchString(s) {
			t.Errorf("%q is a name: %v", s, lex.IsName(s))
		}
	}
}

// anyTokens are tokens with their texts, among them tokens that no source has.
func anyTokens() []struct {
	t    lex.Token
	text string
} {
	return []struct {
		t    lex.Token
		text string
	}{
		{lex.Token{Kind: lex.Name, Text: "part"}, "part"}, {lex.Token{Kind: lex.Name, Text: "a", At: 7}, "a"}, {lex.Token{Kind: lex.Mark, Text: "{"}, "{"}, {lex.Token{Kind: lex.Mark, Text: "=", At: 3}, "="},
		{lex.Token{Kind: lex.Number}, "0"}, {lex.Token{Kind: lex.Number, N: 12, At: 5}, "12"}, {lex.Token{Kind: lex.Number, N: -12}, "-12"}, {lex.Token{Kind: lex.Number, N: -999999999}, "-999999999"},
		{lex.Token{Kind: lex.Number, N: 1234567890}, "1234567890"}, {lex.Token{Kind: lex.Number, N: math.MaxInt}, "9223372036854775807"}, {lex.Token{Kind: lex.Number, N: math.MinInt}, "-9223372036854775808"},
		{lex.Token{Kind: lex.Number, Text: "x", N: 3}, "3"}, {lex.Token{Kind: lex.Number, Text: "x"}, "0"}, {lex.Token{Kind: lex.Name, Text: "b", N: 3}, "b"}, {lex.Token{Kind: lex.Mark, Text: ";", N: -3, At: -1}, ";"},
		{lex.Token{Kind: lex.Name}, ""}, {lex.Token{Kind: lex.Mark}, ""}, {lex.Token{Kind: lex.Name, N: 5}, ""}, {lex.Token{Kind: lex.Mark, N: 5}, ""},
		{lex.Token{Kind: lex.Name, Text: "1b é\xff\n#"}, "1b é\xff\n#"}, {lex.Token{Kind: lex.Mark, Text: "{}"}, "{}"}, {lex.Token{Kind: lex.Name, Text: strings.Repeat("n", 20001)}, strings.Repeat("n", 20001)},
		{lex.Token{}, ""}, {lex.Token{N: 5}, ""}, {lex.Token{Text: "t", N: 5}, "t"}, {lex.Token{Kind: 4, Text: "t"}, "t"}, {lex.Token{Kind: -1, Text: "t", N: 1}, "t"}, {lex.Token{Kind: math.MaxInt, Text: "t", At: math.MinInt}, "t"},
	}
}

// P4.1: the texts of any tokens.
func TestWrite(t *testing.T) {
	for _, c := range anyTokens() {
		if s := lex.Write(c.t); s != c.text {
			t.Errorf("%v is written as %.50q, want %.50q", c.t, s, c.text)
		}
	}
}

// P4.1: the texts of any tokens are joined by single spaces; there are none at the ends.
func TestJoin(t *testing.T) {
	if s := lex.Join(nil); s != "" {
		t.Errorf("no tokens are joined as %q", s)
	}
	if s := lex.Join([]lex.Token{}); s != "" {
		t.Errorf("no tokens are joined as %q", s)
	}
	var all []lex.Token
	var texts []string
	for _, c := range anyTokens() {
		if s := lex.Join([]lex.Token{c.t}); s != c.text {
			t.Errorf("%v alone is joined as %.50q", c.t, s)
		}
		for _, d := range anyTokens() {
			if s := lex.Join([]lex.Token{c.t, d.t}); s != c.text+" "+d.text {
				t.Errorf("%v and %v are joined as %.50q", c.t, d.t, s)
			}
		}
		all, texts = append(all, c.t), append(texts, c.text)
		if s := lex.Join(all); s != strings.Join(texts, " ") {
			t.Errorf("%v are joined as %.50q", all, s)
		}
	}
	if s := lex.Join(make([]lex.Token, 4)); s != "   " {
		t.Errorf("four tokens without a text are joined as %q", s)
	}
}
