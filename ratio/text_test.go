package ratio_test

import (
	"math/big"
	"regexp"
	"strings"
	"testing"

	"fretsaw/api"
	"fretsaw/ratio"
)

// A model of the texts, but for what is in lowest terms.
var (
	integerText  = regexp.MustCompile(`^(?:0|-?[1-9][0-9]*)$`)
	fractionText = regexp.MustCompile(`^-?[1-9][0-9]*/[1-9][0-9]*$`)
)

// slowParse parses with the model.
func slowParse(s string) (api.Ratio, api.Errno) {
	isText := integerText.MatchString(s) || fractionText.MatchString(s)
	if !isText || len(s) > 40 {
		return api.Ratio{}, api.ErrSyntax
	}
	x, ok := new(big.Rat).SetString(s)
	if !ok || x.RatString() != s { // RatString writes lowest terms
		return api.Ratio{}, api.ErrSyntax
	}
	return slowRatio(x)
}

// checkParse compares the result for a text with that of the model, and with the text.
func checkParse(t *testing.T, s string) {
	t.Helper()
	want, wantError := slowParse(s)
	r, e := ratio.Parse(s)
	check(t, s, r, e, want, wantError)
	if e == api.OK && ratio.Show(r) != s {
		t.Errorf("%q is parsed, but the text is %q", s, ratio.Show(r))
	}
}

// P5.1 and P5.6: texts of ratios, which are parsed again.
func TestKnownTexts(t *testing.T) {
	for s, r := range map[string]api.Ratio{
		"0": q(0, 1), "1": q(1, 1), "-1": q(-1, 1), "10": q(10, 1), "-17": q(-17, 1), "1/2": q(1, 2), "-3/2": q(-3, 2), "10/11": q(10, 11), "-100/101": q(-100, 101), "7/10": q(7, 10),
		"4611686018427387904": q(top, 1), "-4611686018427387904": q(-top, 1), "1/4611686018427387904": q(1, top), "-1/4611686018427387904": q(-1, top),
		"4611686018427387904/4611686018427387903": q(top, top-1), "-4611686018427387904/4611686018427387903": q(-top, top-1), "-4611686018427387903/4611686018427387904": q(1-top, top),
	} {
		if text := ratio.Show(r); text != s {
			t.Errorf("the text of %v is %q, want %q", r, text, s)
		}
		parsed, e := ratio.Parse(s)
		check(t, s, parsed, e, r, api.OK)
	}
}

// P5.6: each sample is parsed from its text, which is that of the model.
func TestTexts(t *testing.T) {
	for _, r := range append(validSamples(), fewSamples()...) {
		text := ratio.Show(r)
		if want := rat(r).RatString(); text != want {
			t.Errorf("the text of %v is %q, want %q", r, text, want)
		}
		parsed, e := ratio.Parse(text)
		check(t, text, parsed, e, r, api.OK)
	}
}

// P5.1 and P5.6: texts that are none of any fraction in lowest terms.
func TestWrongTexts(t *testing.T) {
	for _, s := range []string{
		"", "-", "/", "-/", "--1", "+1", "+0", "-0", "00", "01", "007", "-01", "-00", "0/0", "1/0", "-1/0", "2/0", "0/1", "0/2", "-0/3", "1/1", "-5/1", "3/00", "3/01", "03/2", "3/02", "-03/2",
		"2/2", "2/4", "6/4", "-6/4", "10/100", "77/121", "1/-2", "-1/-2", "1/+2", "+1/2", "1/", "/2", "-/2", "1//2", "1/2/3", "1/2/", "/1/2", "1-", "1-2", "1/2-",
		" 1", "1 ", "1 /2", "1/ 2", "- 1", "1\n", "\t1", "1\x00", "\x001", "a", "1a", "a1", "0x1", "1e3", "1.5", "1,5", "1_000", "½", "1⁄2", "−1", "٣", "1/٣", "１", "\xff", "1\xff", "1:2", "1.", "inf", "NaN", "0b1",
		"9223372036854775808/2", "4611686018427387904/4611686018427387904", "9223372036854775807/7", "18446744073709551616/2", "2/18446744073709551616", "3/18446744073709551618", "18446744073709551618/3", "-36893488147419103232/6", "18446744073709551616/1", "18446744073709551616/0", "0/18446744073709551616",
		"018446744073709551616", "3/036893488147419103232", "-0123456789012345678901234567890123456789", "1000000000000000000/20000000000000000000", "20000000000000000000/1000000000000000000", "12345678901234567890123456789012345678/2", "2/12345678901234567890123456789012345678", "12345678901234567890123456789012345678/",
	} {
		r, e := ratio.Parse(s)
		check(t, s, r, e, q(0, 0), api.ErrSyntax)
		checkParse(t, s)
	}
}

// P5.1 and P5.6: fractions in lowest terms that are out of range, also where words would overflow.
func TestTextsOutOfRange(t *testing.T) {
	for _, s := range []string{
		"4611686018427387905", "-4611686018427387905", "1/4611686018427387905", "-1/4611686018427387905", "4611686018427387905/4611686018427387904", "4611686018427387904/4611686018427387905", "9223372036854775807", "-9223372036854775808", "9223372036854775808", "1/9223372036854775808", "9223372036854775807/2", "9223372036854775808/3",
		"18446744073709551615", "18446744073709551616", "18446744073709551617", "-18446744073709551617", "1/18446744073709551616", "1/18446744073709551617", "1/18446744073709551618", "3/18446744073709551617", "18446744073709551617/3", "18446744073709551617/2", "36893488147419103235/9223372036854775809",
		"340282366920938463463374607431768211456", "340282366920938463463374607431768211457", "-340282366920938463463374607431768211457", "99999999999999999999", "1000000000000000001/20000000000000000000", "-5000000000000000001/7000000000000000000",
	} {
		r, e := ratio.Parse(s)
		check(t, s, r, e, q(0, 0), api.ErrRange)
		checkParse(t, s)
	}
}

// P5.1 and P5.6: texts of 40 bytes count, those of 41 bytes do not.
func TestSizesOfTexts(t *testing.T) {
	for _, s := range []string{
		strings.Repeat("1", 40), "1" + strings.Repeat("0", 39), "-" + strings.Repeat("9", 39), "1/" + strings.Repeat("7", 38), "-2/" + strings.Repeat("7", 37), strings.Repeat("3", 38) + "/2", "-" + strings.Repeat("3", 37) + "/2",
		"1111111111111111111/22222222222222222223", "22222222222222222223/1111111111111111111", "-1111111111111111112/5555555555555555557",
	} {
		if len(s) != 40 {
			t.Errorf("%q has %d bytes", s, len(s))
		}
		r, e := ratio.Parse(s)
		check(t, s, r, e, q(0, 0), api.ErrRange)
		checkParse(t, s)
	}
	longest := "-4611686018427387904/4611686018427387903"
	r, e := ratio.Parse(longest)
	check(t, longest, r, e, q(-top, top-1), api.OK)
	for _, s := range []string{
		strings.Repeat("1", 41), "1" + strings.Repeat("0", 40), "-" + strings.Repeat("9", 40), "1/" + strings.Repeat("7", 39), "-2/" + strings.Repeat("7", 38), strings.Repeat("3", 39) + "/2",
		"11111111111111111111/22222222222222222223", "-4611686018427387904/46116860184273879031", longest + "1", longest + " ", " " + longest, "0" + longest, strings.Repeat("1", 100000), strings.Repeat("-", 100000), "1/" + strings.Repeat("3", 100000),
	} {
		r, e := ratio.Parse(s)
		check(t, s[:41], r, e, q(0, 0), api.ErrSyntax)
	}
}

// P5.6: all short strings of a few characters, and all fractions of small numbers.
func TestShortTexts(t *testing.T) {
	texts := []string{""}
	for size := 0; size <= 5; size++ {
		var longer []string
		for _, s := range texts {
			checkParse(t, s)
			for _, c := range "01469-/+ " {
				longer = append(longer, s+string(c))
			}
		}
		texts = longer
	}
	for num := -60; num <= 60; num++ {
		for den := -1; den <= 60; den++ {
			checkParse(t, big.NewInt(int64(num)).String()+"/"+big.NewInt(int64(den)).String())
		}
	}
}

// P5.6: each byte alone, and in place of each byte of a text.
func TestEachByte(t *testing.T) {
	for c := range 256 {
		b := string([]byte{byte(c)})
		checkParse(t, b)
		for _, s := range []string{"-31/20", "7", "-4611686018427387904/4611686018427387903"} {
			for i := range len(s) {
				checkParse(t, s[:i]+b+s[i:])
				checkParse(t, s[:i]+b+s[i+1:])
			}
		}
	}
}

// P5.6: fractions of any size, of which some are in lowest terms: products and quotients of powers.
func TestLargeTexts(t *testing.T) {
	var numbers []*big.Int
	for _, base := range []int64{2, 3, 6, 10, 35, 4294967296} {
		for x := big.NewInt(base); len(x.String()) < 39; x = new(big.Int).Mul(x, big.NewInt(base)) {
			numbers = append(numbers, x, new(big.Int).Add(x, big.NewInt(1)))
		}
	}
	counts := map[api.Errno]int{}
	for _, num := range numbers {
		for _, den := range numbers {
			s := num.String() + "/" + den.String()
			if len(s) > 42 {
				continue
			}
			checkParse(t, s)
			checkParse(t, "-"+s)
			_, e := ratio.Parse(s)
			counts[e]++
		}
	}
	if counts[api.OK] < 1000 || counts[api.ErrRange] < 1000 || counts[api.ErrSyntax] < 1000 {
		t.Errorf("only these results were tried: %v", counts)
	}
}
