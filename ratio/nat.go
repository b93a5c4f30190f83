package ratio

import "math/bits"

// nat is a natural number of any size: its words, the least significant one first, without zeros at the end.
// None is changed once it is made.
type nat []uint64

// trimmed returns the number without the zeros at the end.
func (x nat) trimmed() nat {
	size := len(x)
	for size > 0 && x[size-1] == 0 {
		size--
	}
	return x[:size]
}

// word returns the number if it fits in a word.
func (x nat) word() (w uint64, ok bool) {
	switch len(x) {
	case 0:
		return 0, true
	case 1:
		return x[0], true
	}
	return 0, false
}

func (x nat) isLess(y nat) bool {
	if len(x) != len(y) {
		return len(x) < len(y)
	}
	for i := len(x) - 1; i >= 0; i-- {
		if x[i] != y[i] {
			return x[i] < y[i]
		}
	}
	return false
}

func (x nat) plus(y nat) nat {
	lesser, greater := x, y
	if y.isLess(x) {
		lesser, greater = y, x
	}
	sum := make(nat, len(greater)+1)
	copy(sum, lesser) // with zeros behind it, so that it has a word for each one of the greater number
	carry := uint64(0)
	for i, w := range greater {
		sum[i], carry = bits.Add64(w, sum[i], carry)
	}
	sum[len(greater)] = carry
	return sum.trimmed()
}

// minus returns the difference from a number that is not greater.
func (x nat) minus(lesser nat) nat {
	rest := make(nat, len(x))
	copy(rest, lesser)
	borrow := uint64(0)
	for i, w := range x {
		rest[i], borrow = bits.Sub64(w, rest[i], borrow)
	}
	return rest.trimmed()
}

// timesPlus returns the product with a word, plus another word.
func (x nat) timesPlus(factor, addend uint64) nat {
	product := make(nat, len(x)+1)
	carry := addend
	for i, w := range x {
		high, low := bits.Mul64(w, factor)
		sum, over := bits.Add64(low, carry, 0)
		product[i] = sum
		carry = high + over
	}
	product[len(x)] = carry
	return product.trimmed()
}

func (x nat) times(factor uint64) nat {
	return x.timesPlus(factor, 0)
}

// over returns the quotient by a word that is not 0, rounded down.
func (x nat) over(divisor uint64) nat {
	quotient := make(nat, len(x))
	rest := uint64(0)
	for i := len(x) - 1; i >= 0; i-- {
		quotient[i], rest = bits.Div64(rest, x[i], divisor)
	}
	return quotient.trimmed()
}

// mod returns the remainder by a word that is not 0.
func (x nat) mod(divisor uint64) uint64 {
	rest := uint64(0)
	for i := len(x) - 1; i >= 0; i-- {
		rest = bits.Rem64(rest, x[i], divisor)
	}
	return rest
}
