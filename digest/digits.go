package digest

import "fretsaw/api"

const (
	digits     = "0123456789abcdef"
	digitCount = 16
)

// Digits returns the digits of a number.
func Digits(h uint64) string {
	var text [digitCount]byte
	for i := range text {
		text[i] = digits[h>>(4*(digitCount-1-i))&15]
	}
	return string(text[:])
}

// Parse returns the number with the given digits.
func Parse(s string) (uint64, api.Errno) {
	if len(s) != digitCount {
		return 0, api.ErrSyntax
	}
	var h uint64
	for _, c := range s {
		value, ok := digitValue(c)
		if !ok {
			return 0, api.ErrSyntax
		}
		h = h<<4 | value
	}
	return h, api.OK
}

// digitValue returns the value of a hexadecimal digit in lower case.
func digitValue(c rune) (uint64, bool) {
	switch {
	case c >= '0' && c <= '9':
		return uint64(c - '0'), true
	case c >= 'a' && c <= 'f':
		return uint64(c-'a') + 10, true
	}
	return 0, false
}
