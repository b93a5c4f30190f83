package vec_test

import (
	"math/big"
	"testing"

	"fretsaw/api"
	"fretsaw/vec"
)

// P6.1: the examples of the chapter.
func TestExamples(t *testing.T) {
	if n := vec.Turn(v(0, 0), v(4, 0), v(1, 2)); n != 1 {
		t.Errorf("the turn of (0, 0), (4, 0) and (1, 2) is %d", n)
	}
	if l := vec.Sorted([]api.Vec{v(3, 0), v(0, 1), v(2, 0)}); len(l) != 3 || l[0] != v(2, 0) {
		t.Errorf("(3, 0), (0, 1) and (2, 0) are sorted as %v", l)
	}
}

// P6.1: known results of the arithmetic, also of those that wrap around.
func TestKnownArithmetic(t *testing.T) {
	for i, c := range []struct{ got, want api.Vec }{
		{vec.Add(v(3, -4), v(-1, 2)), v(2, -2)}, {vec.Sub(v(3, -4), v(-1, 2)), v(4, -6)}, {vec.Neg(v(3, -4)), v(-3, 4)}, {vec.Neg(v(0, 5)), v(0, -5)}, {vec.Scale(v(3, -4), -2), v(-6, 8)},
		{vec.Scale(v(3, -4), 0), v(0, 0)}, {vec.Scale(v(3, -4), 1), v(3, -4)}, {vec.Scale(v(0, 0), most), v(0, 0)}, {vec.Add(v(bound, -bound), v(bound, -bound)), v(1<<29, -1<<29)},
		{vec.Add(v(most, least), v(1, -1)), v(least, most)}, {vec.Add(v(least, most), v(least, most)), v(0, -2)}, {vec.Sub(v(least, most), v(1, -1)), v(most, least)}, {vec.Sub(v(0, least), v(least, least)), v(least, 0)}, {vec.Sub(v(most, -2), v(-1, most)), v(least, most)},
		{vec.Neg(v(least, 1)), v(least, -1)}, {vec.Neg(v(1, least)), v(-1, least)}, {vec.Neg(v(most, least)), v(-most, least)}, {vec.Neg(v(-most, least+1)), v(most, most)},
		{vec.Scale(v(1<<62, -1<<62), 2), v(least, least)}, {vec.Scale(v(1<<62, 1<<62+1), 4), v(0, 4)}, {vec.Scale(v(least, most), -1), v(least, -most)}, {vec.Scale(v(1, 3), least), v(least, least)}, {vec.Scale(v(2, -1), least), v(0, least)}, {vec.Scale(v(most, 1), most), v(1, most)},
	} {
		if c.got != c.want {
			t.Errorf("%d: %v, want %v", i, c.got, c.want)
		}
	}
}

// P6.1: known products, also of those that wrap around.
func TestKnownProducts(t *testing.T) {
	for _, c := range []struct {
		a, b       api.Vec
		dot, cross int
	}{
		{v(3, -4), v(-1, 2), -11, 2}, {v(-1, 2), v(3, -4), -11, -2}, {v(1, 0), v(0, 1), 0, 1}, {v(0, 1), v(1, 0), 0, -1}, {v(2, 3), v(2, 3), 13, 0}, {v(2, 3), v(-4, -6), -26, 0}, {v(5, 7), v(0, 0), 0, 0}, {v(5, 7), v(11, 13), 146, -12},
		{v(bound, bound), v(bound, bound), 1 << 57, 0}, {v(bound, -bound), v(bound, bound), 0, 1 << 57}, {v(1<<29, 1<<29-1), v(1<<29-1, 1<<29-2), 1<<59 - 1<<31 + 2, -1},
		{v(most, 1), v(2, 1), -1, most - 2}, {v(least, 0), v(1, 1), least, least}, {v(least, least), v(1, 1), 0, 0}, {v(least, least), v(1, -1), 0, 0}, {v(least, 1), v(-1, 0), least, 1}, {v(1<<32, 1), v(1<<31, 1<<31), least + 1<<31, most - 1<<31 + 1}, {v(most, most), v(most, -most), 0, -2},
	} {
		if n := vec.Dot(c.a, c.b); n != c.dot {
			t.Errorf("%v and %v: the scalar product is %d, want %d", c.a, c.b, n, c.dot)
		}
		if n := vec.Cross(c.a, c.b); n != c.cross {
			t.Errorf("%v and %v: the cross product is %d, want %d", c.a, c.b, n, c.cross)
		}
	}
}

// slowSum returns what is left of the exact sums of the coordinates of a and n b.
func slowSum(a, b api.Vec, n int) api.Vec {
	x, y := product(b.X, n), product(b.Y, n)
	return v(wrapped(x.Add(x, big.NewInt(int64(a.X)))), wrapped(y.Add(y, big.NewInt(int64(a.Y)))))
}

// P6.1: the arithmetic of all pairs of samples is what is left of the exact one.
func TestArithmetic(t *testing.T) {
	for _, a := range anyVectors() {
		if b := vec.Neg(a); b != slowSum(v(0, 0), a, -1) {
			t.Errorf("the opposite of %v is %v", a, b)
		}
		for _, n := range append(intSamples(), 5, -6, 1000003) {
			if b := vec.Scale(a, n); b != slowSum(v(0, 0), a, n) {
				t.Errorf("%d times %v is %v", n, a, b)
			}
		}
		for _, b := range anyVectors() {
			if c := vec.Add(a, b); c != slowSum(a, b, 1) {
				t.Errorf("%v + %v: %v", a, b, c)
			}
			if c := vec.Sub(a, b); c != slowSum(a, b, -1) {
				t.Errorf("%v - %v: %v", a, b, c)
			}
		}
	}
}

// P6.1: the products of all pairs of samples are what is left of the exact ones.
func TestProducts(t *testing.T) {
	for _, a := range anyVectors() {
		for _, b := range anyVectors() {
			dot := product(a.X, b.X)
			dot.Add(dot, product(a.Y, b.Y))
			if n := vec.Dot(a, b); n != wrapped(dot) {
				t.Errorf("%v and %v: the scalar product is %d", a, b, n)
			}
			cross := product(a.X, b.Y)
			cross.Sub(cross, product(a.Y, b.X))
			if n := vec.Cross(a, b); n != wrapped(cross) {
				t.Errorf("%v and %v: the cross product is %d", a, b, n)
			}
		}
	}
}

// P6.1: known turns: of equal points, of points on a line, of points that are close to a long line, and where numbers wrap around.
func TestKnownTurns(t *testing.T) {
	for _, c := range []struct {
		a, b, c api.Vec
		want    int
	}{
		{v(0, 0), v(4, 0), v(1, 2), 1}, {v(0, 0), v(4, 0), v(1, -2), -1}, {v(0, 0), v(4, 0), v(-9, 1), 1}, {v(4, 0), v(0, 0), v(1, 2), -1}, {v(1, 1), v(2, 3), v(3, 6), 1}, {v(1, 1), v(2, 3), v(4, 6), -1},
		{v(0, 0), v(4, 0), v(2, 0), 0}, {v(0, 0), v(4, 0), v(9, 0), 0}, {v(0, 0), v(4, 0), v(-9, 0), 0}, {v(1, 1), v(2, 3), v(3, 5), 0}, {v(-2, 7), v(-2, 5), v(-2, 9), 0},
		{v(2, 2), v(2, 2), v(3, 9), 0}, {v(2, 2), v(3, 9), v(2, 2), 0}, {v(3, 9), v(2, 2), v(2, 2), 0}, {v(5, 6), v(5, 6), v(5, 6), 0},
		{v(-bound, -bound), v(bound, bound), v(0, 1), 1}, {v(-bound, -bound), v(bound, bound), v(1, 0), -1}, {v(-bound, -bound), v(bound, bound), v(7, 7), 0},
		{v(-bound, -bound), v(bound, bound-1), v(bound-1, bound-2), -1}, {v(-bound, -bound), v(bound-1, bound-2), v(bound, bound-1), 1}, {v(-bound, bound), v(bound, 1-bound), v(bound-1, 2-bound), 1}, {v(bound, bound), v(-bound, -bound), v(-bound, bound), -1},
		{v(least, 0), v(most, 0), v(0, 1), -1}, {v(least, least), v(most, most), v(0, 1), -1}, {v(0, 0), v(1<<32, 0), v(0, 1<<31), -1}, {v(0, 0), v(1<<32, 0), v(0, 1<<32), 0}, {v(0, 0), v(1<<32, 0), v(1, 1<<30), 1}, {v(least, least), v(least, least), v(most, 3), 0}, {v(most, most), v(least, most), v(0, least), 1},
	} {
		if n := vec.Turn(c.a, c.b, c.c); n != c.want {
			t.Errorf("the turn of %v, %v and %v is %d, want %d", c.a, c.b, c.c, n, c.want)
		}
	}
}

// P6.1: the turn is the sign of what is left of the exact cross product, for points of all sizes.
func TestTurns(t *testing.T) {
	counts := map[int]int{}
	for _, l := range shortLists(fewVectors(), 3) {
		if len(l) < 3 {
			continue
		}
		b, c := slowSum(l[1], l[0], -1), slowSum(l[2], l[0], -1)
		cross := product(b.X, c.Y)
		cross.Sub(cross, product(b.Y, c.X))
		n := vec.Turn(l[0], l[1], l[2])
		if n != big.NewInt(int64(wrapped(cross))).Sign() {
			t.Errorf("the turn of %v is %d", l, n)
		}
		counts[n]++
	}
	if min(counts[-1], counts[0], counts[1]) < 1000 {
		t.Errorf("only these turns were tried: %v", counts)
	}
}

// P6.1: Y counts ahead of X, whatever the differences are; of the same Y, the leftmost vector is the least.
func TestKnownOrder(t *testing.T) {
	ascending := []api.Vec{v(least, least), v(most, least), v(0, least+1), v(most, -2), v(-5, -1), v(least, 0), v(-1, 0), v(0, 0), v(2, 0), v(3, 0), v(most, 0), v(least, 1), v(0, 1), v(-7, 6), v(least, most), v(0, most), v(most, most)}
	for i, a := range ascending {
		for j, b := range ascending {
			want := 0
			if i < j {
				want = -1
			} else if i > j {
				want = 1
			}
			if n := vec.Compare(a, b); n != want || vec.Less(a, b) != (want < 0) {
				t.Errorf("%v and %v: %d, less: %v", a, b, n, vec.Less(a, b))
			}
		}
	}
}

// P6.1: the absolute values are compared, not the coordinates; the least int is its own absolute value.
func TestMaxNorm(t *testing.T) {
	for _, c := range []struct {
		a    api.Vec
		want int
	}{
		{v(0, 0), 0}, {v(3, -4), 4}, {v(-4, 3), 4}, {v(4, 3), 4}, {v(-7, 2), 7}, {v(2, 7), 7}, {v(-3, -2), 3}, {v(-2, -3), 3}, {v(5, -5), 5}, {v(0, -1), 1}, {v(bound, 1-bound), bound}, {v(-bound, bound-1), bound}, {v(most, 0), most}, {v(1, -most), most},
		{v(least+1, 3), most}, {v(3, least+1), most}, {v(least, 3), 3}, {v(-3, least), 3}, {v(least, 0), 0}, {v(0, least), 0}, {v(least, most), most}, {v(least+1, least), most}, {v(least, least), least},
	} {
		if n := vec.MaxNorm(c.a); n != c.want {
			t.Errorf("the norm of %v is %d, want %d", c.a, n, c.want)
		}
	}
}

// P6.1: Within at both bounds of both coordinates, for the greatest int, for negative numbers, and for the least int, whose opposite is itself.
func TestWithin(t *testing.T) {
	for _, n := range []int{0, 1, 4, 2000, bound, most - 1} {
		for _, m := range []int{0, 1, -1, n, -n} {
			inside := max(m, -m) <= n
			if vec.Within(v(n, m), n) != inside || vec.Within(v(m, n), n) != inside || vec.Within(v(-n, m), n) != inside || vec.Within(v(m, -n), n) != inside {
				t.Errorf("%d and %d, within %d", n, m, n)
			}
			for _, beyond := range []int{n + 1, -n - 1, most, least, least + 1} {
				if vec.Within(v(beyond, m), n) || vec.Within(v(m, beyond), n) || vec.Within(v(beyond, beyond), n) {
					t.Errorf("%d and %d are within %d", beyond, m, n)
				}
			}
		}
	}
	for _, a := range anyVectors() {
		if vec.Within(a, most) != (a.X != least && a.Y != least) {
			t.Errorf("%v, within the greatest int", a)
		}
		for _, n := range []int{-1, -2, -4, -bound, least + 2, least + 1} {
			if vec.Within(a, n) {
				t.Errorf("%v is within %d", a, n)
			}
		}
		if vec.Within(a, least) != (a == v(least, least)) {
			t.Errorf("%v, within the least int", a)
		}
	}
}
