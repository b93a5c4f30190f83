package ratio_test

import (
	"fmt"
	"math"
	"math/big"
	"testing"

	"fretsaw/api"
	"fretsaw/ratio"
)

// P5.1: the limits are untyped numbers.
func TestLimits(t *testing.T) {
	var part uint64 = ratio.MaxPart
	var terms int16 = ratio.MaxTerms
	if part != 4611686018427387904 || terms != 1000 {
		t.Errorf("the limits are %d and %d", part, terms)
	}
}

// P5.1: the examples of the chapter.
func TestExamples(t *testing.T) {
	r, e := ratio.Of(6, -4)
	check(t, "Of(6, -4)", r, e, q(-3, 2), api.OK)
	if n := ratio.Floor(r); n != -2 {
		t.Errorf("the Floor of -3/2 is %d", n)
	}
	r, e = ratio.Sum([]api.Ratio{q(1, 3), q(1, 6), q(1, 2)})
	check(t, "the sum of 1/3, 1/6 and 1/2", r, e, q(1, 1), api.OK)
	r, e = ratio.Mul(q(1<<62, 1), q(2, 3))
	check(t, "Mul of 2^62/1 and 2/3", r, e, q(0, 0), api.ErrRange)
	r, e = ratio.Mul(q(1<<62, 1), q(3, 1<<62))
	check(t, "Mul of 2^62/1 and 3/2^62", r, e, q(3, 1), api.OK)
}

// P5.1: validity at the bounds of the parts, for all signs, and for all pairs of samples.
func TestValid(t *testing.T) {
	for _, r := range []api.Ratio{q(0, 1), q(1, 1), q(-1, 1), q(3, 2), q(-3, 2), q(top, 1), q(-top, 1), q(1, top), q(-1, top), q(top, top-1), q(-top, top-1), q(top-1, top), q(1-top, top), q(15, 77)} {
		if !ratio.Valid(r) {
			t.Errorf("%v is not valid", r)
		}
	}
	for _, r := range wrongSamples() {
		if ratio.Valid(r) {
			t.Errorf("%v is valid", r)
		}
	}
	for _, num := range intSamples() {
		for _, den := range intSamples() {
			if r := q(num, den); ratio.Valid(r) != slowValid(r) {
				t.Errorf("%v: %v", r, ratio.Valid(r))
			}
		}
	}
}

// P5.1: ratios of two integers.
func TestOf(t *testing.T) {
	for _, c := range []struct {
		num, den int
		want     api.Ratio
		e        api.Errno
	}{
		{3, 2, q(3, 2), api.OK}, {-3, 2, q(-3, 2), api.OK}, {3, -2, q(-3, 2), api.OK}, {-3, -2, q(3, 2), api.OK}, {4, 2, q(2, 1), api.OK}, {77, -121, q(-7, 11), api.OK},
		{0, 1, q(0, 1), api.OK}, {0, -1, q(0, 1), api.OK}, {0, 12, q(0, 1), api.OK}, {0, math.MaxInt, q(0, 1), api.OK}, {0, math.MinInt, q(0, 1), api.OK},
		{top, 1, q(top, 1), api.OK}, {top, -1, q(-top, 1), api.OK}, {top + 1, 1, q(0, 0), api.ErrRange}, {-top - 1, 1, q(0, 0), api.ErrRange}, {1, top, q(1, top), api.OK}, {1, top + 1, q(0, 0), api.ErrRange}, {-1, -top - 1, q(0, 0), api.ErrRange},
		{math.MinInt, 1, q(0, 0), api.ErrRange}, {math.MinInt, -1, q(0, 0), api.ErrRange}, {math.MinInt, 2, q(-top, 1), api.OK}, {math.MinInt, -2, q(top, 1), api.OK}, {math.MinInt, 3, q(0, 0), api.ErrRange}, {math.MinInt, 6, q(-top, 3), api.OK},
		{1, math.MinInt, q(0, 0), api.ErrRange}, {2, math.MinInt, q(-1, top), api.OK}, {-2, math.MinInt, q(1, top), api.OK}, {-6, math.MinInt, q(3, top), api.OK}, {-3, math.MinInt, q(0, 0), api.ErrRange},
		{math.MinInt, math.MinInt, q(1, 1), api.OK}, {math.MaxInt, math.MaxInt, q(1, 1), api.OK}, {math.MaxInt, -7, q(-1317624576693539401, 1), api.OK}, {math.MinInt, math.MaxInt, q(0, 0), api.ErrRange}, {math.MaxInt, math.MinInt, q(0, 0), api.ErrRange},
		{0, 0, q(0, 0), api.ErrArg}, {5, 0, q(0, 0), api.ErrArg}, {top + 1, 0, q(0, 0), api.ErrArg}, {math.MinInt, 0, q(0, 0), api.ErrArg}, {math.MaxInt, 0, q(0, 0), api.ErrArg},
	} {
		r, e := ratio.Of(c.num, c.den)
		check(t, fmt.Sprintf("Of(%d, %d)", c.num, c.den), r, e, c.want, c.e)
	}
	for _, num := range intSamples() {
		for _, den := range intSamples() {
			checkOf(t, num, den)
		}
	}
	for num := -40; num <= 40; num++ {
		for den := -40; den <= 40; den++ {
			checkOf(t, num, den)
		}
	}
}

func checkOf(t *testing.T, num, den int) {
	t.Helper()
	want, wantError := api.Ratio{}, api.ErrArg
	if den != 0 {
		want, wantError = slowRatio(big.NewRat(int64(num), int64(den)))
	}
	r, e := ratio.Of(num, den)
	check(t, fmt.Sprintf("Of(%d, %d)", num, den), r, e, want, wantError)
}

// P5.1: ratios of one integer.
func TestInt(t *testing.T) {
	for _, n := range intSamples() {
		want, wantError := q(n, 1), api.OK
		if n < -top || n > top {
			want, wantError = q(0, 0), api.ErrRange
		}
		r, e := ratio.Int(n)
		check(t, fmt.Sprintf("Int(%d)", n), r, e, want, wantError)
	}
}

// P5.1: results that are just in range or just out of it, and results in range of operations on greater numbers.
func TestRange(t *testing.T) {
	const half = 1 << 31
	const p = 1<<58 - 27
	for i, c := range []struct {
		f    func(a, b api.Ratio) (api.Ratio, api.Errno)
		a, b api.Ratio
		want api.Ratio
		e    api.Errno
	}{
		{ratio.Add, q(top-1, 1), q(1, 1), q(top, 1), api.OK}, {ratio.Add, q(top, 1), q(1, 1), q(0, 0), api.ErrRange}, {ratio.Add, q(1-top, 1), q(-1, 1), q(-top, 1), api.OK}, {ratio.Add, q(-top, 1), q(-1, 1), q(0, 0), api.ErrRange},
		{ratio.Add, q(top, 1), q(top, 1), q(0, 0), api.ErrRange}, {ratio.Add, q(-top, 1), q(-top, 1), q(0, 0), api.ErrRange}, {ratio.Add, q(top, 1), q(-top, 1), q(0, 1), api.OK}, {ratio.Add, q(top, 1), q(-1, 2), q(0, 0), api.ErrRange},
		{ratio.Add, q(1<<61, 1), q(-1, 2), q(top-1, 2), api.OK}, {ratio.Add, q(1<<61, 1), q(1, 2), q(0, 0), api.ErrRange}, {ratio.Add, q(-1<<61, 1), q(1, 2), q(1-top, 2), api.OK}, {ratio.Add, q(-1<<61, 1), q(-1, 2), q(0, 0), api.ErrRange},
		{ratio.Add, q(1, half), q(1, half-1), q(1<<32-1, top-half), api.OK}, {ratio.Add, q(1, half), q(1, half+1), q(0, 0), api.ErrRange}, {ratio.Add, q(1, top), q(1, top), q(1, top/2), api.OK}, {ratio.Add, q(1, top), q(1, top/2), q(3, top), api.OK},
		{ratio.Add, q(1, top), q(1, 3), q(0, 0), api.ErrRange}, {ratio.Add, q(1<<61+1, top), q(1<<61-1, top), q(1, 1), api.OK}, {ratio.Add, q(1, 6*p), q(1, 10*p), q(4, 15*p), api.OK}, {ratio.Add, q(1, 3<<60), q(-1, 3<<59), q(-1, 3<<60), api.OK},
		{ratio.Add, q(top-1, top), q(1, top), q(1, 1), api.OK}, {ratio.Add, q(top, top-1), q(-1, top-1), q(1, 1), api.OK}, {ratio.Add, q(top, prime), q(top, prime), q(0, 0), api.ErrRange}, {ratio.Add, q(top, 7), q(top, 11), q(0, 0), api.ErrRange},
		{ratio.Sub, q(-top, 1), q(1, 1), q(0, 0), api.ErrRange}, {ratio.Sub, q(top, 1), q(-1, 1), q(0, 0), api.ErrRange}, {ratio.Sub, q(0, 1), q(-top, 1), q(top, 1), api.OK}, {ratio.Sub, q(top, top-1), q(1, top-1), q(1, 1), api.OK}, {ratio.Sub, q(1, top), q(1, top-1), q(0, 0), api.ErrRange},
		{ratio.Mul, q(half, 1), q(-half, 1), q(-top, 1), api.OK}, {ratio.Mul, q(half, 1), q(half+1, 1), q(0, 0), api.ErrRange}, {ratio.Mul, q(1, half), q(1, half), q(1, top), api.OK}, {ratio.Mul, q(1, half), q(-1, half+1), q(0, 0), api.ErrRange},
		{ratio.Mul, q(1<<32, 1), q(1<<32, 1), q(0, 0), api.ErrRange}, {ratio.Mul, q(1<<32+1, 1), q(1<<32+1, 1), q(0, 0), api.ErrRange}, {ratio.Mul, q(1, 1<<32), q(1, 1<<32), q(0, 0), api.ErrRange}, {ratio.Mul, q(1, 1<<32+1), q(1, 1<<32+1), q(0, 0), api.ErrRange},
		{ratio.Mul, q(-top, 1), q(-1, 1), q(top, 1), api.OK}, {ratio.Mul, q(top, 1), q(top, 1), q(0, 0), api.ErrRange}, {ratio.Mul, q(top, top-1), q(top-1, top), q(1, 1), api.OK}, {ratio.Mul, q(0, 1), q(-1, top), q(0, 1), api.OK}, {ratio.Mul, q(top, 15), q(-5, 1<<61), q(-2, 3), api.OK},
		{ratio.Div, q(top, 1), q(1, 2), q(0, 0), api.ErrRange}, {ratio.Div, q(1, top), q(2, 1), q(0, 0), api.ErrRange}, {ratio.Div, q(1, top), q(1, 2), q(1, top/2), api.OK}, {ratio.Div, q(1, 1), q(top, 1), q(1, top), api.OK}, {ratio.Div, q(1, 1), q(-1, top), q(-top, 1), api.OK},
		{ratio.Div, q(1, 1), q(-2, 3), q(-3, 2), api.OK}, {ratio.Div, q(-top, 1), q(-top, 1), q(1, 1), api.OK}, {ratio.Div, q(-top, top-1), q(top, top-1), q(-1, 1), api.OK}, {ratio.Div, q(0, 1), q(-1, top), q(0, 1), api.OK}, {ratio.Div, q(half, 1), q(1, half), q(top, 1), api.OK}, {ratio.Div, q(half+1, 1), q(-1, half), q(0, 0), api.ErrRange},
	} {
		r, e := c.f(c.a, c.b)
		check(t, fmt.Sprintf("%d: %v and %v", i, c.a, c.b), r, e, c.want, c.e)
	}
}

// P5.1: operations on all pairs of samples.
func TestOperations(t *testing.T) {
	counts := map[api.Errno]int{}
	for _, f := range operations() {
		for _, a := range validSamples() {
			for _, b := range validSamples() {
				want, wantError := api.Ratio{}, api.ErrArg
				if f.name != "Div" || b.Num != 0 {
					want, wantError = slowRatio(f.slow(new(big.Rat), rat(a), rat(b)))
				}
				r, e := f.apply(a, b)
				if r != want || e != wantError || (e == api.OK) != ratio.Valid(r) {
					t.Errorf("%s(%v, %v): %v, %s, want %v, %s", f.name, a, b, r, e.Name(), want, wantError.Name())
				}
				counts[e]++
			}
		}
	}
	if counts[api.OK] < 10000 || counts[api.ErrRange] < 10000 || counts[api.ErrArg] < 100 || len(counts) != 3 {
		t.Errorf("only these results were tried: %v", counts)
	}
}

// P5.1: a ratio that is not valid leads to ErrArg on either side, whatever the other one is, also where the result would be out of range. Division by 0 does as well.
func TestWrongOperands(t *testing.T) {
	for _, f := range operations() {
		for _, wrong := range wrongSamples() {
			for _, other := range append(wrongSamples(), fewSamples()...) {
				r, e := f.apply(wrong, other)
				check(t, fmt.Sprintf("%s(%v, %v)", f.name, wrong, other), r, e, q(0, 0), api.ErrArg)
				r, e = f.apply(other, wrong)
				check(t, fmt.Sprintf("%s(%v, %v)", f.name, other, wrong), r, e, q(0, 0), api.ErrArg)
			}
		}
	}
	for _, a := range append(wrongSamples(), validSamples()...) {
		r, e := ratio.Div(a, q(0, 1))
		check(t, fmt.Sprintf("Div(%v, 0)", a), r, e, q(0, 0), api.ErrArg)
	}
}

// P5.1: the opposite and the sign.
func TestNegAndSign(t *testing.T) {
	for _, r := range validSamples() {
		if ratio.Neg(r) != q(-r.Num, r.Den) || ratio.Sign(r) != rat(r).Sign() {
			t.Errorf("%v: %v, %d", r, ratio.Neg(r), ratio.Sign(r))
		}
	}
	if ratio.Neg(q(0, 1)) != q(0, 1) || ratio.Neg(q(-top, 1)) != q(top, 1) || ratio.Neg(q(top, top-1)) != q(-top, top-1) {
		t.Error("the opposites of 0, -2^62 and 2^62/(2^62-1) are wrong")
	}
	if ratio.Sign(q(0, 1)) != 0 || ratio.Sign(q(1, top)) != 1 || ratio.Sign(q(-1, top)) != -1 || ratio.Sign(q(top, 1)) != 1 {
		t.Error("the signs of 0, 1/2^62, -1/2^62 and 2^62 are wrong")
	}
}

// P5.1: for ratios that are not valid, functions without an error return zero values.
func TestZeroValues(t *testing.T) {
	for _, r := range wrongSamples() {
		if ratio.Neg(r) != q(0, 0) || ratio.Sign(r) != 0 || ratio.Floor(r) != 0 || ratio.Ceil(r) != 0 || ratio.Show(r) != "" {
			t.Errorf("%v: %v, %d, %d, %d, %q", r, ratio.Neg(r), ratio.Sign(r), ratio.Floor(r), ratio.Ceil(r), ratio.Show(r))
		}
		for _, other := range append(wrongSamples(), fewSamples()...) {
			if ratio.Cmp(r, other) != 0 || ratio.Cmp(other, r) != 0 {
				t.Errorf("%v and %v: %d and %d", r, other, ratio.Cmp(r, other), ratio.Cmp(other, r))
			}
		}
	}
}
