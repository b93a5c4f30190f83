package lex_test

import (
	"slices"
	"strings"
	"testing"

	"fretsaw/api"
	"fretsaw/lex"
)

// withoutOffsets returns tokens whose offsets are 0.
func withoutOffsets(l []lex.Token) []lex.Token {
	return moved(l, func(int) int { return 0 })
}

// moved returns tokens with other offsets.
func moved(l []lex.Token, to func(at int) int) []lex.Token {
	m := slices.Clone(l)
	for i := range m {
		m[i].At = to(m[i].At)
	}
	return m
}

// tokenized calls visit with the tokens of all sources that have only tokens.
func tokenized(visit func(s string, l []lex.Token)) {
	for s := range shortSources(5) {
		if l, _, e := lex.Tokens(s); e == api.OK {
			visit(s, l)
		}
	}
	for _, s := range validSources() {
		if l, _, e := lex.Tokens(s); e == api.OK {
			visit(s, l)
		}
	}
}

// P4.2: offsets increase strictly, and the text of a token stands at its offset. Between the texts is nothing but blanks and comments.
func TestOffsets(t *testing.T) {
	visited := 0
	tokenized(func(s string, l []lex.Token) {
		end := 0
		for i, token := range l {
			text := lex.Write(token)
			if i > 0 && token.At <= l[i-1].At || token.At < end || !strings.HasPrefix(s[token.At:], text) {
				t.Fatalf("%.50q: token %d is %v", s, i, token)
			}
			if gap := s[end:token.At]; skipped.FindString(gap) != gap {
				t.Fatalf("%.50q: %q is skipped in front of token %d", s, gap, i)
			}
			end = token.At + len(text)
			visited++
		}
	})
	if visited < 10000 {
		t.Errorf("only %d tokens were tried", visited)
	}
}

// P4.3: what is joined has the same tokens, but for their offsets.
func TestRoundTrip(t *testing.T) {
	tokenized(func(s string, l []lex.Token) {
		checkRoundTrip(t, s, l)
	})
}

func checkRoundTrip(t *testing.T, s string, l []lex.Token) {
	t.Helper()
	joined := lex.Join(l)
	again, at, e := lex.Tokens(joined)
	if len(joined) > 20000 {
		if len(again) != 0 || at != 0 || e != api.ErrLimit {
			t.Errorf("%.50q, joined to %d bytes: %d tokens, %d, %s", s, len(joined), len(again), at, e.Name())
		}
		return
	}
	if !slices.Equal(withoutOffsets(again), withoutOffsets(l)) || at != 0 || e != api.OK {
		t.Errorf("%.50q, joined as %.50q: %v, %d, %s, want %v", s, joined, again, at, e.Name(), l)
	}
}

// P4.3: results of exactly 20000 bytes and of one byte more.
func TestRoundTripOfLongSources(t *testing.T) {
	for count, s := range map[int]string{
		20000: "ab" + strings.Repeat("{", 9999), 20001: strings.Repeat("{", 10001), 19999: strings.Repeat(";", 10000), 29999: strings.Repeat("-1", 10000),
	} {
		l, _, e := lex.Tokens(s)
		if e != api.OK || len(lex.Join(l)) != count {
			t.Errorf("%.50q: %d tokens, %s, joined to %d bytes, want %d", s, len(l), e.Name(), len(lex.Join(l)), count)
		}
		checkRoundTrip(t, s, l)
	}
}

// P4.4: blanks and comments in front of, between and behind the tokens move them, and change nothing else.
func TestBlanks(t *testing.T) {
	fillers := []string{" ", "\t", "\n", "  \t\n", "#\n", "# ?1b_\xff\n", " #\n\t#-\n"}
	tokenized(func(s string, l []lex.Token) {
		for _, filler := range fillers {
			for i := -1; i <= len(l); i++ {
				checkFilled(t, s, l, filler, i)
			}
		}
	})
}

// checkFilled puts a filler in front of the token i, or at the end if there is none; in front of all tokens and at the end for the token -1.
func checkFilled(t *testing.T, s string, l []lex.Token, filler string, i int) {
	t.Helper()
	var filled strings.Builder
	var want []lex.Token
	begin := 0
	for j, token := range l {
		filled.WriteString(s[begin:token.At])
		begin = token.At
		if j == i || i < 0 {
			filled.WriteString(filler)
		}
		token.At = filled.Len()
		want = append(want, token)
	}
	filled.WriteString(s[begin:])
	if i == len(l) || i < 0 {
		filled.WriteString(filler)
	}
	if filled.Len() <= 20000 {
		check(t, filled.String(), want, 0, api.OK)
	} else {
		check(t, filled.String(), nil, 0, api.ErrLimit)
	}
}

// P4.4: blanks and comments in front of a wrong token move the error.
func TestBlanksBeforeErrors(t *testing.T) {
	for _, s := range invalidSources() {
		_, at, e := slowTokens(s)
		for _, filler := range []string{" ", "\t\n", "#\n", "# ?\n "} {
			if len(filler)+len(s) <= 20000 {
				check(t, filler+s, nil, at+len(filler), e)
				check(t, s[:at]+filler+s[at:], nil, at+len(filler), e)
			}
		}
	}
}

// checkParts compares the tokens of two sources with a line feed in between with those of the parts.
func checkParts(t *testing.T, first, second string) {
	t.Helper()
	s := first + "\n" + second
	if len(s) > 20000 {
		check(t, s, nil, 0, api.ErrLimit)
		return
	}
	l, at, e := lex.Tokens(first)
	if e != api.OK {
		check(t, s, nil, at, e)
		return
	}
	m, at, e := lex.Tokens(second)
	behind := func(at int) int { return len(first) + 1 + at }
	if e != api.OK {
		check(t, s, nil, behind(at), e)
		return
	}
	check(t, s, append(l, moved(m, behind)...), 0, api.OK)
}

// P4.5: all pairs of short sources, and of samples; if a part is wrong, the first wrong one counts.
func TestParts(t *testing.T) {
	for first := range shortSources(2) {
		for second := range shortSources(2) {
			checkParts(t, first, second)
		}
	}
	samples := append(validSources(), "1b", "a -", "abcdefghijklmnopq", "12345678901", "?", "# a\n00")
	for _, first := range samples {
		for _, second := range samples {
			checkParts(t, first, second)
		}
	}
}

// P4.5: a comment at the end of the first part, and parts of 20000 and of 20001 bytes together.
func TestLongParts(t *testing.T) {
	for _, first := range []string{"a#", "a # b", "a 1", ""} {
		for _, second := range []string{";", "-1", "b#", "#b"} {
			fill := 20000 - len(first) - 1 - len(second)
			checkParts(t, first, second+strings.Repeat(" ", fill))
			checkParts(t, first, second+strings.Repeat(" ", fill+1))
			checkParts(t, strings.Repeat("(", fill)+first, second)
			checkParts(t, strings.Repeat("(", fill+1)+first, second)
		}
	}
}

// P1: the same calls lead to the same results, whose lists are separate; arguments are not modified.
func TestRepeatedCalls(t *testing.T) {
	tokenized(func(s string, l []lex.Token) {
		again, _, _ := lex.Tokens(s)
		kept := slices.Clone(l)
		joined := lex.Join(l)
		if !slices.Equal(again, l) || lex.Join(l) != joined || !slices.Equal(l, kept) {
			t.Fatalf("%.50q: %v, then %v", s, kept, again)
		}
		for i := range again {
			again[i] = lex.Token{}
		}
		_ = append(again, lex.Token{Kind: 9})
		if !slices.Equal(l, kept) {
			t.Fatalf("%.50q: the tokens %v change with those of another call", s, kept)
		}
	})
}
