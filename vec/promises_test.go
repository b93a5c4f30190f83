package vec_test

import (
	"slices"
	"testing"

	"fretsaw/api"
	"fretsaw/vec"
)

// P6.2: addition is associative and commutative; Neg and Sub are its inverses, and the zero vector its neutral one.
func TestGroup(t *testing.T) {
	for _, a := range fewVectors() {
		if vec.Add(a, v(0, 0)) != a || vec.Sub(a, v(0, 0)) != a || vec.Add(a, vec.Neg(a)) != v(0, 0) || vec.Sub(a, a) != v(0, 0) || vec.Neg(vec.Neg(a)) != a || vec.Sub(v(0, 0), a) != vec.Neg(a) {
			t.Errorf("%v and the zero vector", a)
		}
		for _, b := range fewVectors() {
			if vec.Add(a, b) != vec.Add(b, a) || vec.Sub(vec.Add(a, b), b) != a || vec.Add(vec.Sub(a, b), b) != a || vec.Sub(a, b) != vec.Add(a, vec.Neg(b)) || vec.Sub(b, a) != vec.Neg(vec.Sub(a, b)) {
				t.Errorf("%v and %v", a, b)
			}
			for _, c := range fewVectors() {
				if vec.Add(vec.Add(a, b), c) != vec.Add(a, vec.Add(b, c)) {
					t.Errorf("%v + %v + %v", a, b, c)
				}
			}
		}
	}
}

// P6.2: Scale is repeated addition, for numbers of both signs, and for all others by steps of one.
func TestScaleIsRepeatedAddition(t *testing.T) {
	for _, a := range anyVectors() {
		sum := v(0, 0)
		for n := range 70 {
			if vec.Scale(a, n) != sum || vec.Scale(a, -n) != vec.Neg(sum) {
				t.Errorf("%v, %d times: %v, and %v", a, n, vec.Scale(a, n), vec.Scale(a, -n))
			}
			sum = vec.Add(sum, a)
		}
		for _, n := range intSamples() {
			if vec.Scale(a, n+1) != vec.Add(vec.Scale(a, n), a) {
				t.Errorf("%v, once more than %d times", a, n)
			}
			for _, m := range intSamples() {
				if vec.Scale(a, n+m) != vec.Add(vec.Scale(a, n), vec.Scale(a, m)) {
					t.Errorf("%v, %d and %d times", a, n, m)
				}
			}
		}
	}
}

// P6.3: Cross is antisymmetric, Dot is symmetric, and both are additive in both arguments.
func TestProductsAreAdditive(t *testing.T) {
	for _, a := range fewVectors() {
		for _, b := range fewVectors() {
			if vec.Cross(a, b) != -vec.Cross(b, a) || vec.Dot(a, b) != vec.Dot(b, a) {
				t.Errorf("%v and %v are not symmetric", a, b)
			}
			for _, c := range fewVectors() {
				if vec.Cross(vec.Add(a, b), c) != vec.Cross(a, c)+vec.Cross(b, c) || vec.Cross(c, vec.Add(a, b)) != vec.Cross(c, a)+vec.Cross(c, b) {
					t.Errorf("the cross products of %v, %v and %v", a, b, c)
				}
				if vec.Dot(vec.Add(a, b), c) != vec.Dot(a, c)+vec.Dot(b, c) || vec.Dot(c, vec.Add(a, b)) != vec.Dot(c, a)+vec.Dot(c, b) {
					t.Errorf("the scalar products of %v, %v and %v", a, b, c)
				}
			}
		}
	}
}

// P6.4: the turn of three points within 2^28, in all orders.
func TestTurnInAllOrders(t *testing.T) {
	counts := map[int]int{}
	for _, a := range nearVectors() {
		for _, b := range nearVectors() {
			for _, c := range nearVectors() {
				n := vec.Turn(a, b, c)
				counts[n]++
				if vec.Turn(b, c, a) != n || vec.Turn(c, a, b) != n || vec.Turn(a, c, b) != -n || vec.Turn(c, b, a) != -n || vec.Turn(b, a, c) != -n {
					t.Errorf("%v, %v and %v: %d", a, b, c, n)
				}
			}
		}
	}
	if len(counts) != 3 || min(counts[-1], counts[0], counts[1]) < 1000 {
		t.Errorf("only these turns were tried: %v", counts)
	}
}

// moves has vectors by which samples are moved.
func moves() []api.Vec {
	return []api.Vec{v(1, 0), v(0, -1), v(-2, 3), v(bound/2, -bound/2), v(bound, 0), v(0, bound), v(2*bound, 2*bound), v(-2*bound, 1), v(bound-1, -2*bound)}
}

// P6.4: the turn of points that are moved by one vector, within 2^28.
func TestTurnIsMoved(t *testing.T) {
	visited := 0
	for _, l := range shortLists(nearVectors(), 3) {
		if len(l) < 3 {
			continue
		}
		for _, by := range moves() {
			a, b, c := vec.Add(l[0], by), vec.Add(l[1], by), vec.Add(l[2], by)
			if max(vec.MaxNorm(a), vec.MaxNorm(b), vec.MaxNorm(c)) > bound {
				continue
			}
			visited++
			if vec.Turn(a, b, c) != vec.Turn(l[0], l[1], l[2]) {
				t.Errorf("%v, moved by %v", l, by)
			}
		}
	}
	if visited < 10000 {
		t.Errorf("only %d moves were tried", visited)
	}
}

// P6.5 and P6.1: Compare is the order by Y, and then by X, for all pairs; of equal vectors alone, neither is less.
func TestCompare(t *testing.T) {
	l := append(anyVectors(), nearVectors()...)
	for _, a := range l {
		for _, b := range l {
			n := vec.Compare(a, b)
			if n != rank(a).Cmp(rank(b)) || n != -vec.Compare(b, a) || (n == 0) != (a == b) || vec.Less(a, b) != (n < 0) {
				t.Errorf("%v and %v: %d, less: %v", a, b, n, vec.Less(a, b))
			}
		}
	}
}

// P6.5: Compare is transitive: what is sorted by it is in order, each vector with all others.
func TestTransitive(t *testing.T) {
	l := append(anyVectors(), nearVectors()...)
	slices.SortFunc(l, vec.Compare)
	for i, a := range l {
		for _, b := range l[i:] {
			if vec.Compare(a, b) > 0 || vec.Less(b, a) {
				t.Errorf("%v is ahead of %v", a, b)
			}
		}
	}
}

// P6.5: moving both vectors by one does not change their order, within 2^28.
func TestOrderIsMoved(t *testing.T) {
	visited := 0
	for _, a := range nearVectors() {
		for _, b := range nearVectors() {
			for _, by := range slices.Concat(moves(), nearVectors()) {
				c, d := vec.Add(a, by), vec.Add(b, by)
				if max(vec.MaxNorm(c), vec.MaxNorm(d)) > bound {
					continue
				}
				visited++
				if vec.Compare(c, d) != vec.Compare(a, b) || vec.Less(c, d) != vec.Less(a, b) {
					t.Errorf("%v and %v, moved by %v", a, b, by)
				}
			}
		}
	}
	if visited < 10000 {
		t.Errorf("only %d moves were tried", visited)
	}
}

// P6.7: the norm is 0 only for the zero vector, the same for the opposite one, and at most the sum of the norms for a sum; it is the least number within which the vector is.
func TestNorm(t *testing.T) {
	for _, a := range nearVectors() {
		n := vec.MaxNorm(a)
		if n < 0 || (n == 0) != (a == v(0, 0)) || vec.MaxNorm(vec.Neg(a)) != n || vec.MaxNorm(v(a.Y, a.X)) != n || !vec.Within(a, n) || vec.Within(a, n-1) {
			t.Errorf("the norm of %v is %d", a, n)
		}
		for _, b := range nearVectors() {
			if m := vec.MaxNorm(b); vec.MaxNorm(vec.Add(a, b)) > n+m || vec.MaxNorm(vec.Sub(a, b)) < max(n-m, m-n) {
				t.Errorf("the norms of %v and %v, and those of their sum and difference", a, b)
			}
		}
	}
}

// everyResult returns the results of all functions of vectors.
func everyResult(a, b api.Vec, n int) [14]any {
	box, ok := vec.BoxOf([]api.Vec{a, b})
	return [14]any{vec.Add(a, b), vec.Sub(a, b), vec.Neg(a), vec.Scale(a, n), vec.Dot(a, b), vec.Cross(a, b), vec.Turn(a, b, v(n, n)), vec.Compare(a, b), vec.Less(a, b), vec.Within(a, n), vec.MaxNorm(a), box, ok, vec.InBox(api.Box{Lo: a, Hi: b}, v(n, n))}
}

// P1: nothing panics, and the same calls lead to the same results, for vectors and numbers of all sizes.
func TestSameResults(t *testing.T) {
	for _, a := range fewVectors() {
		for _, b := range fewVectors() {
			for _, n := range intSamples() {
				if r := everyResult(a, b, n); everyResult(a, b, n) != r {
					t.Errorf("%v, %v and %d: not %v again", a, b, n, r)
				}
			}
		}
	}
}
