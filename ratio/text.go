package ratio

import "strings"

// maxText is the number of bytes of the longest text that is parsed.
const maxText = 40

// readFraction returns the fraction with a text of at most 40 bytes.
func readFraction(s string) (f fraction, ok bool) {
	unsigned, isNegative := strings.CutPrefix(s, "-")
	numText, denText, hasDen := strings.Cut(unsigned, "/")
	switch {
	case !hasDen:
		denText = "1"
	case denText == "0" || denText == "1":
		return fraction{}, false
	}
	num, isNum := readNat(numText)
	den, isDen := readNat(denText)
	if !isNum || !isDen || isNegative && len(num) == 0 || !isLowest(num, den) {
		return fraction{}, false
	}
	return fraction{integer{isNegative, num}, den}, true
}

// readNat returns the number with decimal digits without needless zeros.
func readNat(s string) (x nat, ok bool) {
	if s == "" || s[0] == '0' && s != "0" {
		return nil, false
	}
	for i := range len(s) {
		if s[i] < '0' || s[i] > '9' {
			return nil, false
		}
		x = x.timesPlus(10, uint64(s[i]-'0'))
	}
	return x, true
}

// isLowest reports whether two numbers, which have at most 39 digits together, have no common divisor greater than 1.
// One of them has at most 19 digits, so that it fits in a word. The denominator is not 0.
func isLowest(num, den nat) bool {
	if d, ok := den.word(); ok {
		return gcd(num.mod(d), d) == 1
	}
	n, ok := num.word()
	return ok && n > 0 && gcd(den.mod(n), n) == 1
}
