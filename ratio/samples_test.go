package ratio_test

import (
	"math"
	"math/big"
	"testing"

	"fretsaw/api"
	"fretsaw/ratio"
)

const (
	top   = 1 << 62
	prime = top - 57
)

// q returns the ratio with two parts, which may be wrong.
func q(num, den int) api.Ratio { return api.Ratio{Num: num, Den: den} }

// rat returns a valid ratio as a number of the model.
func rat(r api.Ratio) *big.Rat { return big.NewRat(int64(r.Num), int64(r.Den)) }

// slowValid is the definition of valid ratios.
func slowValid(r api.Ratio) bool {
	num, den := big.NewInt(int64(r.Num)), big.NewInt(int64(r.Den))
	divisor := new(big.Int).GCD(nil, nil, new(big.Int).Abs(num), new(big.Int).Abs(den))
	return den.Sign() > 0 && den.Cmp(big.NewInt(top)) <= 0 && num.CmpAbs(big.NewInt(top)) <= 0 && divisor.Cmp(big.NewInt(1)) == 0
}

// slowRatio returns the valid ratio of a number of the model, or ErrRange.
func slowRatio(x *big.Rat) (api.Ratio, api.Errno) {
	if x.Num().CmpAbs(big.NewInt(top)) > 0 || x.Denom().Cmp(big.NewInt(top)) > 0 {
		return api.Ratio{}, api.ErrRange
	}
	return q(int(x.Num().Int64()), int(x.Denom().Int64())), api.OK
}

// intSamples has small numbers, the bounds of words, of ints and of the parts of ratios, and their neighbours.
func intSamples() []int {
	l := []int{0, math.MinInt, math.MinInt + 1, math.MinInt + 2}
	for _, n := range []int{
		1, 2, 3, 4, 5, 6, 7, 9, 10, 12, 30, 77, 1<<31 - 1, 1 << 31, 1<<31 + 1, 3037000499, 3037000500, 1<<32 - 1, 1 << 32, 1<<32 + 1, 3 << 60, 1000000000000000000,
		1<<61 - 1, 1 << 61, 1<<61 + 1, prime, top - 2, top - 1, top, top + 1, top + 2, 3 << 61, math.MaxInt - 1, math.MaxInt,
	} {
		l = append(l, n, -n)
	}
	return l
}

// validSamples are valid ratios of all sizes.
func validSamples() []api.Ratio {
	l := []api.Ratio{q(3<<60, 5), q(-5, 3<<60), q(1<<61+1, top), q(1<<61-1, top), q(1<<61-1, top-1), q(-1, 6*(1<<58-27)), q(1, 10*(1<<58-27)), q(77, 1<<31+1), q(1<<31-1, 3037000499)}
	for _, den := range []int{1, 2, 3, 4, 6, 7, 1 << 31, 1 << 32, 1 << 61, prime, top - 1, top} {
		for _, num := range []int{0, 1, 2, 3, 5, 6, 7, 1 << 31, 1<<32 + 1, 1 << 61, prime, top - 1, top} {
			for _, r := range []api.Ratio{q(num, den), q(-num, den)} {
				if slowValid(r) && (num != 0 || r == q(0, 1)) {
					l = append(l, r)
				}
			}
		}
	}
	return l
}

// fewSamples are valid ratios of which all triples can be tried.
func fewSamples() []api.Ratio {
	return []api.Ratio{
		q(0, 1), q(1, 1), q(-1, 1), q(2, 1), q(-3, 1), q(1, 2), q(-1, 2), q(1, 3), q(2, 3), q(-2, 3), q(3, 4), q(-5, 6), q(1, 6), q(-7, 10), q(4, 15),
		q(1<<31, 1), q(1, 1<<31), q(-1<<32, 3), q(1<<31-1, 1<<31), q(1<<61, 1), q(-1<<61, 1), q(1, 1<<61), q(3, 1<<61), q(top-1, 1), q(1, top-1), q(prime, 2), q(-2, prime),
		q(top, 1), q(-top, 1), q(1, top), q(-1, top), q(3, top), q(top, 3), q(top, top-1), q(top-1, top), q(1-top, top), q(1<<61+1, top), q(1<<61-1, top),
	}
}

// wrongSamples are ratios that are not valid.
func wrongSamples() []api.Ratio {
	return []api.Ratio{
		q(0, 0), q(1, 0), q(-1, 0), q(0, 2), q(0, -1), q(0, top), q(0, math.MinInt), q(1, -1), q(1, -2), q(-3, -2), q(2, 2), q(2, 4), q(-2, 4), q(6, 4), q(top, 2), q(top, top), q(-top, top),
		q(top+1, 1), q(-top-1, 1), q(1, top+1), q(-1, top+1), q(1, -top), q(math.MaxInt, 1), q(math.MinInt, 1), q(math.MinInt, 2), q(math.MinInt, math.MinInt), q(1, math.MaxInt), q(1, math.MinInt),
		q(math.MinInt, math.MaxInt), q(math.MaxInt, math.MaxInt), q(math.MinInt, -1), q(math.MinInt, 0), q(3<<60, 3), q(3, 3<<60), q(top, 6),
	}
}

// an operation has a name, itself, and what it is in the model.
type operation struct {
	name  string
	apply func(a, b api.Ratio) (api.Ratio, api.Errno)
	slow  func(z, x, y *big.Rat) *big.Rat
}

func operations() []operation {
	return []operation{
		{"Add", ratio.Add, (*big.Rat).Add}, {"Sub", ratio.Sub, (*big.Rat).Sub}, {"Mul", ratio.Mul, (*big.Rat).Mul}, {"Div", ratio.Div, (*big.Rat).Quo},
	}
}

// check compares a ratio and an error with what they should be.
func check(t *testing.T, what string, r api.Ratio, e api.Errno, want api.Ratio, wantError api.Errno) {
	t.Helper()
	if r != want || e != wantError {
		t.Errorf("%.80q: %v, %s, want %v, %s", what, r, e.Name(), want, wantError.Name())
	}
}

// The samples are what they are called.
func TestSamples(t *testing.T) {
	for _, r := range append(validSamples(), fewSamples()...) {
		if !slowValid(r) {
			t.Errorf("%v is not valid", r)
		}
	}
	for _, r := range wrongSamples() {
		if slowValid(r) {
			t.Errorf("%v is valid", r)
		}
	}
	if n := len(validSamples()); n < 150 || !big.NewInt(prime).ProbablyPrime(20) {
		t.Errorf("%d samples", n)
	}
}
