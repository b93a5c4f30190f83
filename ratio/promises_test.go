package ratio_test

import (
	"math/big"
	"slices"
	"testing"

	"fretsaw/api"
	"fretsaw/ratio"
)

// inRange returns the result of an operation, and whether there is one. If a ratio is the result of an operation without one, there is none.
func inRange(f func(a, b api.Ratio) (api.Ratio, api.Errno), a, b api.Ratio) (api.Ratio, bool) {
	r, e := f(a, b)
	return r, e == api.OK
}

// differ reports whether two results, if both are in range, are not the same, and counts those that are compared.
func differ(a, b api.Ratio, aOK, bOK bool, visited *int) bool {
	if !aOK || !bOK {
		return false
	}
	*visited++
	return a != b
}

// P5.2: addition and multiplication are commutative, also in their errors.
func TestCommutative(t *testing.T) {
	for _, a := range validSamples() {
		for _, b := range validSamples() {
			for _, f := range []func(a, b api.Ratio) (api.Ratio, api.Errno){ratio.Add, ratio.Mul} {
				x, e := f(a, b)
				y, d := f(b, a)
				check(t, "", x, e, y, d)
			}
		}
	}
}

// P5.2: addition and multiplication are associative, and multiplication distributes over addition.
func TestTriples(t *testing.T) {
	var sums, products, distributed int
	for _, a := range fewSamples() {
		for _, b := range fewSamples() {
			for _, c := range fewSamples() {
				ab, ok1 := inRange(ratio.Add, a, b)
				bc, ok2 := inRange(ratio.Add, b, c)
				left, ok3 := inRange(ratio.Add, ab, c)
				right, ok4 := inRange(ratio.Add, a, bc)
				if differ(left, right, ok1 && ok3, ok2 && ok4, &sums) {
					t.Errorf("%v + %v + %v: %v and %v", a, b, c, left, right)
				}
				product, ok5 := inRange(ratio.Mul, a, b)
				other, ok6 := inRange(ratio.Mul, b, c)
				left, ok3 = inRange(ratio.Mul, product, c)
				right, ok4 = inRange(ratio.Mul, a, other)
				if differ(left, right, ok5 && ok3, ok6 && ok4, &products) {
					t.Errorf("%v * %v * %v: %v and %v", a, b, c, left, right)
				}
				other, ok6 = inRange(ratio.Mul, a, c)
				left, ok3 = inRange(ratio.Mul, a, bc)
				right, ok4 = inRange(ratio.Add, product, other)
				if differ(left, right, ok2 && ok3, ok5 && ok6 && ok4, &distributed) {
					t.Errorf("%v * (%v + %v): %v and %v", a, b, c, left, right)
				}
			}
		}
	}
	if sums < 1000 || products < 1000 || distributed < 1000 {
		t.Errorf("only %d sums, %d products and %d products of sums were tried", sums, products, distributed)
	}
}

// P5.2: subtraction and division are the inverses of addition and multiplication, 0 and 1 their neutral ratios.
func TestInverses(t *testing.T) {
	visited := 0
	for _, a := range validSamples() {
		for _, b := range validSamples() {
			for _, f := range [][2]func(a, b api.Ratio) (api.Ratio, api.Errno){{ratio.Add, ratio.Sub}, {ratio.Sub, ratio.Add}, {ratio.Mul, ratio.Div}, {ratio.Div, ratio.Mul}} {
				there, e := f[0](a, b)
				if back, d := f[1](there, b); e == api.OK && b != q(0, 1) {
					check(t, "there and back", back, d, a, api.OK)
					visited++
				}
			}
		}
		for i, f := range operations() {
			r, e := f.apply(a, q(i/2, 1))
			check(t, f.name+" with its neutral ratio", r, e, a, api.OK)
		}
		r, e := ratio.Sub(a, a)
		check(t, "a ratio minus itself", r, e, q(0, 1), api.OK)
		r, e = ratio.Add(a, ratio.Neg(a))
		check(t, "a ratio plus its opposite", r, e, q(0, 1), api.OK)
	}
	if visited < 10000 {
		t.Errorf("only %d results were tried", visited)
	}
}

// P5.1 and P5.3: Cmp at the bounds, and for all pairs of samples; it agrees with the sign of the difference, and only equal ratios are neither less nor greater.
func TestCmp(t *testing.T) {
	for i, c := range []struct {
		a, b api.Ratio
		want int
	}{
		{q(1, 3), q(2, 7), 1}, {q(2, 7), q(1, 3), -1}, {q(-1, 3), q(-2, 7), -1}, {q(1, 2), q(1, 2), 0}, {q(-1, 2), q(1, 2), -1}, {q(0, 1), q(0, 1), 0}, {q(0, 1), q(-1, top), 1}, {q(0, 1), q(1, top), -1},
		{q(top, 1), q(top-1, 1), 1}, {q(-top, 1), q(1-top, 1), -1}, {q(top, 1), q(-top, 1), 1}, {q(1, top), q(1, top-1), -1}, {q(-1, top), q(-1, top-1), 1},
		{q(top, top-1), q(top-1, top-2), -1}, {q(top-1, top), q(prime-1, prime), 1}, {q(top, prime), q(top, top-1), 1}, {q(top, 3), q(top, 5), 1}, {q(-top, 3), q(top, 5), -1}, {q(-top, 3), q(-top, 5), -1},
	} {
		if n := ratio.Cmp(c.a, c.b); n != c.want {
			t.Errorf("%d: %v and %v: %d", i, c.a, c.b, n)
		}
	}
	for _, a := range validSamples() {
		for _, b := range validSamples() {
			n := ratio.Cmp(a, b)
			if n != rat(a).Cmp(rat(b)) || n != -ratio.Cmp(b, a) || (n == 0) != (a == b) {
				t.Errorf("%v and %v: %d", a, b, n)
			}
			if difference, e := ratio.Sub(a, b); e == api.OK && ratio.Sign(difference) != n {
				t.Errorf("%v and %v: %d, but the difference is %v", a, b, n, difference)
			}
		}
	}
}

// P5.3: Cmp is transitive: what it sorts is in order, each one with all others.
func TestSorted(t *testing.T) {
	l := validSamples()
	slices.SortFunc(l, ratio.Cmp)
	for i, a := range l {
		for _, b := range l[i:] {
			if ratio.Cmp(a, b) > 0 {
				t.Errorf("%v is ahead of %v", a, b)
			}
		}
	}
}

// P5.3: adding a ratio keeps the order, and so does multiplying by a positive one; multiplying by a negative one reverses it.
func TestOrderIsKept(t *testing.T) {
	visited := 0
	for _, a := range fewSamples() {
		for _, b := range fewSamples() {
			for _, c := range fewSamples() {
				order := ratio.Cmp(a, b)
				x, ok1 := inRange(ratio.Add, a, c)
				y, ok2 := inRange(ratio.Add, b, c)
				if ok1 && ok2 && ratio.Cmp(x, y) != order {
					t.Errorf("%v and %v, plus %v: %v and %v", a, b, c, x, y)
				}
				x, ok3 := inRange(ratio.Mul, a, c)
				y, ok4 := inRange(ratio.Mul, b, c)
				if ok3 && ok4 && ratio.Cmp(x, y) != order*ratio.Sign(c) {
					t.Errorf("%v and %v, times %v: %v and %v", a, b, c, x, y)
				}
				if ok1 && ok2 && ok3 && ok4 {
					visited++
				}
			}
		}
	}
	if visited < 1000 {
		t.Errorf("only %d triples were tried", visited)
	}
}

// P5.4: rounding of known ratios.
func TestRounding(t *testing.T) {
	for _, c := range []struct {
		r           api.Ratio
		floor, ceil int
	}{
		{q(0, 1), 0, 0}, {q(1, 2), 0, 1}, {q(-1, 2), -1, 0}, {q(7, 2), 3, 4}, {q(-7, 2), -4, -3}, {q(5, 3), 1, 2}, {q(4, 3), 1, 2}, {q(-5, 3), -2, -1}, {q(-4, 3), -2, -1},
		{q(6, 1), 6, 6}, {q(-6, 1), -6, -6}, {q(1, 1), 1, 1}, {q(-1, 1), -1, -1}, {q(top, 1), top, top}, {q(-top, 1), -top, -top}, {q(1-top, 1), 1 - top, 1 - top},
		{q(1, top), 0, 1}, {q(-1, top), -1, 0}, {q(top-1, top), 0, 1}, {q(1-top, top), -1, 0}, {q(top, top-1), 1, 2}, {q(-top, top-1), -2, -1},
		{q(top-1, 2), 1<<61 - 1, 1 << 61}, {q(1-top, 2), -1 << 61, 1 - 1<<61}, {q(top, 3), 1537228672809129301, 1537228672809129302}, {q(-top, 3), -1537228672809129302, -1537228672809129301},
	} {
		if ratio.Floor(c.r) != c.floor || ratio.Ceil(c.r) != c.ceil {
			t.Errorf("%v: %d and %d, want %d and %d", c.r, ratio.Floor(c.r), ratio.Ceil(c.r), c.floor, c.ceil)
		}
	}
}

// P5.4: for all samples, Floor and Ceil lie within 1 on the right side, and are equal exactly for integers.
func TestRoundingOfSamples(t *testing.T) {
	samples := validSamples()
	for num := -60; num <= 60; num++ {
		for den := 1; den <= 20; den++ {
			if r := q(num, den); slowValid(r) {
				samples = append(samples, r)
			}
		}
	}
	one := big.NewRat(1, 1)
	for _, r := range samples {
		floor, ceil := big.NewRat(int64(ratio.Floor(r)), 1), big.NewRat(int64(ratio.Ceil(r)), 1)
		below, above := new(big.Rat).Sub(rat(r), floor), new(big.Rat).Sub(ceil, rat(r))
		isRight := below.Sign() >= 0 && below.Cmp(one) < 0 && above.Sign() >= 0 && above.Cmp(one) < 0
		if !isRight || (floor.Cmp(ceil) == 0) != (r.Den == 1) {
			t.Errorf("%v: %v and %v", r, floor, ceil)
		}
	}
}

// P1: nothing panics, and the same calls lead to the same results, for all pairs of numbers as parts.
func TestAllParts(t *testing.T) {
	var l []api.Ratio
	for _, num := range intSamples() {
		for _, den := range intSamples() {
			l = append(l, q(num, den))
		}
	}
	for i, a := range l {
		b := l[(i*7+3)%len(l)]
		for _, f := range operations() {
			x, e := f.apply(a, b)
			y, d := f.apply(a, b)
			check(t, f.name, x, e, y, d)
			if (e == api.OK) != slowValid(x) || e != api.OK && x != q(0, 0) {
				t.Errorf("%s(%v, %v): %v, %s", f.name, a, b, x, e.Name())
			}
		}
		if ratio.Cmp(a, b) != ratio.Cmp(a, b) || ratio.Neg(a) != ratio.Neg(a) || ratio.Sign(a) != ratio.Sign(a) || ratio.Floor(a) != ratio.Floor(a) || ratio.Ceil(a) != ratio.Ceil(a) || ratio.Show(a) != ratio.Show(a) {
			t.Errorf("%v and %v: two calls differ", a, b)
		}
	}
}
