package lex_test

import (
	"iter"
	"regexp"
	"strconv"
	"strings"

	"fretsaw/api"
	"fretsaw/lex"
)

// A model of the layer: what is skipped and what is read, and what it has to be then.
var (
	skipped    = regexp.MustCompile(`^(?:[ \t\n]|#[^\n]*)+`)
	lexeme     = regexp.MustCompile(`^(?:[A-Za-z][A-Za-z0-9_]*|[-0-9][0-9]*|[{}(),;:=])`)
	name       = regexp.MustCompile(`^[A-Za-z][A-Za-z0-9_]{0,15}$`)
	longName   = regexp.MustCompile(`^[A-Za-z][A-Za-z0-9_]{16,}$`)
	number     = regexp.MustCompile(`^(?:0|-?[1-9][0-9]{0,8})$`)
	longNumber = regexp.MustCompile(`^-?[1-9][0-9]{9,}$`)
	follower   = regexp.MustCompile(`^[A-Za-z_]`)
)

// slowTokens divides a source with the model.
func slowTokens(s string) (l []lex.Token, at int, e api.Errno) {
	if len(s) > 20000 {
		return nil, 0, api.ErrLimit
	}
	rest := s[len(skipped.FindString(s)):]
	for rest != "" {
		at := len(s) - len(rest)
		text := lexeme.FindString(rest)
		rest = rest[len(text):]
		t, e := slowToken(text, rest)
		if e != api.OK {
			return nil, at, e
		}
		t.At = at
		l = append(l, t)
		rest = rest[len(skipped.FindString(rest)):]
	}
	return l, 0, api.OK
}

// slowToken returns the token that was read in front of the rest of a source.
func slowToken(text, rest string) (lex.Token, api.Errno) {
	switch {
	case name.MatchString(text):
		return lex.Token{Kind: 1, Text: text}, api.OK
	case longName.MatchString(text):
		return lex.Token{}, api.ErrLimit
	case len(text) == 1 && strings.Contains("{}(),;:=", text):
		return lex.Token{Kind: 3, Text: text}, api.OK
	case follower.MatchString(rest):
		return lex.Token{}, api.ErrSyntax
	case number.MatchString(text):
		n, err := strconv.Atoi(text)
		if err != nil {
			panic(err)
		}
		return lex.Token{Kind: 2, N: n}, api.OK
	case longNumber.MatchString(text):
		return lex.Token{}, api.ErrLimit
	}
	return lex.Token{}, api.ErrSyntax
}

// shortSources yields all sources of at most n bytes that are made of a byte of each class.
func shortSources(n int) iter.Seq[string] {
	return func(yield func(string) bool) {
		sources := []string{""}
		for size := 0; ; size++ {
			for _, s := range sources {
				if !yield(s) {
					return
				}
			}
			if size == n {
				return
			}
			var longer []string
			for _, s := range sources {
				for _, c := range "a_01- \n#{?" {
					longer = append(longer, s+string(c))
				}
			}
			sources = longer
		}
	}
}

// validSources are sources that have only tokens, and of these many that stand close to each other.
func validSources() []string {
	return []string{
		"", " ", "\n", "\t \n", "#", "# a", "#\n", "# 1b\n\t# _", "a", "Z", "a_", "a0_", "x # y", "x# y\nz", "x#y\n#\n#\nz", "#x\ny",
		"0", "-1", "1-2", "-1-2-3", "10", "-10", "900000000", "999999999", "-999999999", "999999999-999999999", "0-1", "0{0}0",
		"{}(),;:=", "a{b}c(d)e,f;g:h=i", "{1}2(3)4,5;6:7=8", "a-1", "a b-1 c", "a1 1", "abcdefghijklmnop", "A_23456789012345{abcdefghijklmnop}",
		"abcdefghijklmnop-999999999#\nabcdefghijklmnop", "# \xff\xfe \r ? é\nx", "part a { -12 }",
		"part plate {\n\tgrade S235; # steel\n\tgrain = 1;\n\touter: (0, 0) (40, 0) (40, -30);\n}\n",
		strings.Repeat("{", 300), strings.Repeat("a ", 300), strings.Repeat("7\n", 300), strings.Repeat("-1", 300), strings.Repeat("#;\n;", 300),
	}
}

// invalidSources are sources with a token that is wrong.
func invalidSources() []string {
	l := []string{
		"-", "--", "--1", "-a", "- 1", "-_", "-#1", "00", "01", "-0", "-00", "-01", "0_", "0a", "1a", "1_", "-1a", "1-", "1--2", "1-0", "0-0",
		"_", "_a", "a _", "?", "a?", "a\r", "a\r\nb", "\v", "\f", "\x00", "a.b", "a+b", "+1", "1.5", "\"a\"", "[1]", "a/b", "é", "aé", "\xff", "a\x80", "\u00a0",
		"1234567890", "-1234567890", "0123456789", "-0123456789", "0000000000", "1234567890a", "1234567890_", "-1234567890a", "999999999a",
		"abcdefghijklmnopq", "a bcdefghijklmnopqr", "A_234567890123456", "abcdefghijklmnopq?", "1 2 abcdefghijklmnopq 03",
		strings.Repeat("x", 19999), strings.Repeat("1", 19999), strings.Repeat("0", 19999), strings.Repeat("-", 19999), strings.Repeat(" ", 19998) + "_",
	}
	for c := range 256 {
		if s := string([]byte{byte(c)}); !strings.Contains(" \t\n#{}(),;:=", s) && follower.FindString(s) != s && (c < '0' || c > '9') {
			l = append(l, s, "a "+s, "#\n"+s+"{", "1 "+s)
		}
	}
	return l
}
