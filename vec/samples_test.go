package vec_test

import (
	"math"
	"math/big"
	"math/rand"
	"testing"

	"fretsaw/api"
)

const (
	least = math.MinInt
	most  = math.MaxInt
	bound = 1 << 28 // the promises on turns, moved vectors and norms hold up to here
)

// v returns the vector with two coordinates.
func v(x, y int) api.Vec { return api.Vec{X: x, Y: y} }

// intSamples has small numbers, the bounds of ints, and numbers whose products are about 2^63 or wrap around.
func intSamples() []int {
	l := []int{0, least, least + 1}
	for _, n := range []int{1, 2, 3, 7, 2000, bound, 1<<31 - 1, 1 << 32, 3037000500, 1 << 62, most - 1, most} {
		l = append(l, n, -n)
	}
	return l
}

// vectors returns all vectors whose coordinates are in a list.
func vectors(coordinates []int) []api.Vec {
	var l []api.Vec
	for _, y := range coordinates {
		for _, x := range coordinates {
			l = append(l, v(x, y))
		}
	}
	return l
}

// anyVectors has vectors of all sizes.
func anyVectors() []api.Vec { return vectors(intSamples()) }

// fewVectors has vectors of all sizes, of which all triples can be tried.
func fewVectors() []api.Vec {
	return append(vectors([]int{0, 1, -2, least, most}), v(3, -4), v(-1, 2), v(bound, -bound), v(1<<32, 3037000500), v(-3037000500, 1-1<<31), v(least+1, most-1))
}

// nearVectors has vectors within 2^28, of which all triples can be tried.
func nearVectors() []api.Vec {
	l := vectors([]int{-bound, -1, 0, 2, bound})
	return append(l, v(1, 1), v(4, 4), v(-3, 2), v(0, 1), v(1, 0), v(bound-1, bound-1), v(bound, bound-1), v(1-bound, 2-bound), v(bound/2, bound/2), v(-bound/2, bound/2), v(1-bound/2, bound/2), v(bound-2, -7))
}

// product returns the exact product of two numbers.
func product(a, b int) *big.Int {
	return new(big.Int).Mul(big.NewInt(int64(a)), big.NewInt(int64(b)))
}

// wrapped returns the int that is left of an exact number of any size.
func wrapped(x *big.Int) int {
	return int(new(big.Int).And(x, new(big.Int).SetUint64(math.MaxUint64)).Uint64())
}

// rank returns a number that orders the vectors by Y, and then by X.
func rank(a api.Vec) *big.Int {
	n := new(big.Int).Lsh(big.NewInt(int64(a.Y)), 70)
	return n.Add(n, big.NewInt(int64(a.X)))
}

// shortLists returns all lists of at most size vectors of a list.
func shortLists(of []api.Vec, size int) [][]api.Vec {
	all := [][]api.Vec{nil}
	longest := all
	for range size {
		var longer [][]api.Vec
		for _, l := range longest {
			for _, a := range of {
				longer = append(longer, append(l[:len(l):len(l)], a))
			}
		}
		all, longest = append(all, longer...), longer
	}
	return all
}

// randomLists returns lists of up to 300 vectors, the same ones in each run: in some of them most vectors are repeated, in others there are coordinates of all sizes, or all of one sign.
func randomLists() [][]api.Vec {
	source := rand.New(rand.NewSource(6))
	var lists [][]api.Vec
	for i := range 400 {
		var l []api.Vec
		for range source.Intn(3 + 300*(i%2)) {
			switch i % 5 {
			case 0:
				l = append(l, v(source.Intn(5)-2, source.Intn(5)-2))
			case 1:
				l = append(l, v(int(source.Uint64()), int(source.Uint64())))
			case 2:
				l = append(l, v(bound-source.Intn(9), -bound+source.Intn(9)))
			case 3:
				l = append(l, v(1+source.Intn(2000), 1+source.Intn(30)))
			case 4:
				l = append(l, v(-1-source.Intn(30), -1-source.Intn(2000)))
			}
		}
		lists = append(lists, l)
	}
	return lists
}

// The models and the samples are what they are called.
func TestSamples(t *testing.T) {
	if wrapped(product(most, 2)) != -2 || wrapped(product(least, -1)) != least || wrapped(product(-3, 5)) != -15 || wrapped(product(1<<62, 4)) != 0 {
		t.Error("wrapped")
	}
	if rank(v(most, 0)).Cmp(rank(v(least, 1))) >= 0 || rank(v(least, -3)).Cmp(rank(v(least+1, -3))) >= 0 || rank(v(5, 2)).Cmp(rank(v(5, 2))) != 0 {
		t.Error("rank")
	}
	if n := len(shortLists(vectors([]int{0, 1}), 3)); n != 1+4+16+64 {
		t.Errorf("%d short lists", n)
	}
	for _, a := range nearVectors() {
		if max(a.X, -a.X, a.Y, -a.Y) > bound {
			t.Errorf("%v is not near", a)
		}
	}
	empty, single, long := 0, 0, 0
	for _, l := range randomLists() {
		switch {
		case len(l) == 0:
			empty++
		case len(l) == 1:
			single++
		case len(l) > 100:
			long++
		}
	}
	if empty < 10 || single < 10 || long < 50 {
		t.Errorf("%d empty lists, %d with one vector, %d long ones", empty, single, long)
	}
}
