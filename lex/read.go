package lex

import (
	"strconv"
	"strings"

	"fretsaw/api"
)

const (
	marks     = "{}(),;:="
	maxDigits = 9
)

// read returns the token at the start of a text that is not empty, and how many bytes it has.
func read(s string) (t Token, size int, e api.Errno) {
	switch c := s[0]; {
	case isLetter(c):
		return readName(s)
	case isDigit(c) || c == '-':
		return readNumber(s)
	case strings.IndexByte(marks, c) >= 0:
		return Token{Kind: Mark, Text: s[:1]}, 1, api.OK
	}
	return Token{}, 0, api.ErrSyntax
}

// readName reads from a letter on, so that only the number of bytes can be wrong.
func readName(s string) (t Token, size int, e api.Errno) {
	size = countLeading(s, inWord)
	if size > api.MaxName {
		return Token{}, 0, api.ErrLimit
	}
	return Token{Kind: Name, Text: s[:size]}, size, api.OK
}

// readNumber reads from a digit or a minus sign on.
func readNumber(s string) (t Token, size int, e api.Errno) {
	size = 1 + countLeading(s[1:], isDigit)
	digits := strings.TrimPrefix(s[:size], "-")
	// A leading 0 must be all of the number: neither a minus sign nor other digits may stand beside it.
	isForm := digits != "" && (digits[0] != '0' || size == 1)
	isFollowed := size < len(s) && inWord(s[size])
	switch {
	case !isForm || isFollowed:
		return Token{}, 0, api.ErrSyntax
	case len(digits) > maxDigits:
		return Token{}, 0, api.ErrLimit
	}
	n, _ := strconv.Atoi(s[:size]) // no error: what has the form of a number and so few digits is an int
	return Token{Kind: Number, N: n}, size, api.OK
}

// commentSize returns how many bytes the comment at the start of a text has, without the line feed behind it, which is a blank.
func commentSize(s string) int {
	if size := strings.IndexByte(s, '\n'); size >= 0 {
		return size
	}
	return len(s)
}

// countLeading returns how many bytes at the start of a text belong to a class.
func countLeading(s string, class func(c byte) bool) int {
	for i := range len(s) {
		if !class(s[i]) {
			return i
		}
	}
	return len(s)
}

func isBlank(c byte) bool { return c == ' ' || c == '\t' || c == '\n' }

func isDigit(c byte) bool { return c >= '0' && c <= '9' }

func isLetter(c byte) bool { return c >= 'a' && c <= 'z' || c >= 'A' && c <= 'Z' }

// inWord reports whether a byte may stand in a name behind its first letter.
func inWord(c byte) bool { return isLetter(c) || isDigit(c) || c == '_' }
