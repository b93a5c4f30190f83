package ratio

import "fretsaw/api"

// integer is an integer of any size. The sign of 0 does not matter.
type integer struct {
	isNegative bool
	size       nat
}

func (x integer) plus(y integer) integer {
	if x.isNegative == y.isNegative {
		return integer{x.isNegative, x.size.plus(y.size)}
	}
	if x.size.isLess(y.size) {
		x, y = y, x
	}
	return integer{x.isNegative, x.size.minus(y.size)}
}

func (x integer) times(factor uint64) integer {
	return integer{x.isNegative, x.size.times(factor)}
}

// fraction is a rational number of any size in lowest terms.
type fraction struct {
	num integer
	den nat
}

// plus returns the sum with a valid ratio. A prime of either denominator, divided by what both have in common, divides only
// one of the two terms of the new numerator, and is not cancelled. So all that is cancelled divides what they have in common,
// which fits in a word.
func (f fraction) plus(r api.Ratio) fraction {
	den := uint64(r.Den)
	common := gcd(f.den.mod(den), den)
	factor := f.den.over(common)
	term := integer{r.Num < 0, factor.times(magnitude(r.Num))}
	num := f.num.times(den / common).plus(term)
	cancelled := gcd(num.size.mod(common), common)
	return fraction{
		num: integer{num.isNegative, num.size.over(cancelled)},
		den: factor.times(den / cancelled),
	}
}

// ratio returns the fraction as a ratio, or ErrRange.
func (f fraction) ratio() (api.Ratio, api.Errno) {
	num, isNum := f.num.size.word()
	den, isDen := f.den.word()
	if !isNum || !isDen {
		return api.Ratio{}, api.ErrRange
	}
	return lowest(f.num.isNegative, num, den)
}
