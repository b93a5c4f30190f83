package ratio_test

import (
	"fmt"
	"math/big"
	"math/rand"
	"slices"
	"testing"

	"fretsaw/api"
	"fretsaw/ratio"
)

// repeated returns a list of n ratios that are the same.
func repeated(r api.Ratio, n int) []api.Ratio {
	return slices.Repeat([]api.Ratio{r}, n)
}

// primeDenominators returns n ratios with the Num 1 and the greatest denominators in range that are primes, so that their sums are as long as they can be.
func primeDenominators(n int) []api.Ratio {
	var l []api.Ratio
	for den := top - 1; len(l) < n; den -= 2 {
		if big.NewInt(int64(den)).ProbablyPrime(0) {
			l = append(l, q(1, den))
		}
	}
	return l
}

// opposites returns a list with the opposite of each ratio.
func opposites(l []api.Ratio) []api.Ratio {
	var m []api.Ratio
	for _, r := range l {
		m = append(m, q(-r.Num, r.Den))
	}
	return m
}

// randomLists returns lists of ratios of which some add up to ratios in range.
func randomLists() [][]api.Ratio {
	source := rand.New(rand.NewSource(5))
	few, samples := fewSamples(), validSamples()
	var lists [][]api.Ratio
	for n := range 600 {
		var small, large []api.Ratio
		for range n % 12 {
			small = append(small, few[source.Intn(15)])
			large = append(large, samples[source.Intn(len(samples))])
		}
		closed := slices.Concat(large, small, opposites(large))
		source.Shuffle(len(closed), func(i, j int) { closed[i], closed[j] = closed[j], closed[i] })
		lists = append(lists, small, large, closed)
	}
	return lists
}

// slowSum adds with the model.
func slowSum(l []api.Ratio) (api.Ratio, api.Errno) {
	sum := new(big.Rat)
	for _, r := range l {
		sum.Add(sum, rat(r))
	}
	return slowRatio(sum)
}

// P5.1 and P5.5: known sums.
func TestKnownSums(t *testing.T) {
	for i, c := range []struct {
		l    []api.Ratio
		want api.Ratio
		e    api.Errno
	}{
		{nil, q(0, 1), api.OK}, {[]api.Ratio{}, q(0, 1), api.OK}, {[]api.Ratio{q(0, 1)}, q(0, 1), api.OK}, {[]api.Ratio{q(-3, 7)}, q(-3, 7), api.OK}, {[]api.Ratio{q(top, top-1)}, q(top, top-1), api.OK},
		{[]api.Ratio{q(1, 2), q(1, 3), q(1, 7), q(1, 42)}, q(1, 1), api.OK}, {[]api.Ratio{q(1, 2), q(-1, 2), q(1, 2)}, q(1, 2), api.OK}, {[]api.Ratio{q(1, 6), q(1, 10), q(1, 15)}, q(1, 3), api.OK},
		{[]api.Ratio{q(top, 1), q(top, 1), q(top, 1), q(-top, 1), q(-top, 1)}, q(top, 1), api.OK}, {[]api.Ratio{q(-top, 1), q(-1, 1), q(1, 1)}, q(-top, 1), api.OK}, {[]api.Ratio{q(top, 1), q(1, top), q(-top, 1)}, q(1, top), api.OK},
		{[]api.Ratio{q(1, top), q(1, top-1), q(-1, top)}, q(1, top-1), api.OK}, {[]api.Ratio{q(1, top), q(1, top-1), q(1, prime), q(-1, top-1), q(-1, prime)}, q(1, top), api.OK},
		{[]api.Ratio{q(1, 3), q(1, top), q(1, 3), q(-1, top), q(1, 3)}, q(1, 1), api.OK}, {[]api.Ratio{q(top, 3), q(top, 3), q(top, 3)}, q(top, 1), api.OK},
		{[]api.Ratio{q(top, 1), q(1, 2)}, q(0, 0), api.ErrRange}, {[]api.Ratio{q(top, 1), q(1, top), q(1, top)}, q(0, 0), api.ErrRange}, {[]api.Ratio{q(1, top), q(1, top-1), q(1, prime)}, q(0, 0), api.ErrRange}, {[]api.Ratio{q(-top, 3), q(-top, 3), q(-top, 3), q(-1, 1)}, q(0, 0), api.ErrRange},
		{repeated(q(1, 1), 1000), q(1000, 1), api.OK}, {repeated(q(1, top), 1000), q(125, top/8), api.OK}, {repeated(q(top, 1), 1000), q(0, 0), api.ErrRange}, {append(repeated(q(top, 1), 500), repeated(q(-top, 1), 499)...), q(top, 1), api.OK},
	} {
		r, e := ratio.Sum(c.l)
		check(t, fmt.Sprintf("%d", i), r, e, c.want, c.e)
	}
}

// P5.1: at most 1000 ratios are added; ErrArg counts ahead of ErrLimit, and ErrLimit ahead of ErrRange.
func TestErrorsOfSums(t *testing.T) {
	for _, r := range []api.Ratio{q(0, 1), q(1, 2), q(-top, 1), q(1, top)} {
		for _, n := range []int{1001, 1002, 5000} {
			sum, e := ratio.Sum(repeated(r, n))
			check(t, fmt.Sprintf("%d times %v", n, r), sum, e, q(0, 0), api.ErrLimit)
		}
	}
	for _, wrong := range wrongSamples() {
		for _, n := range []int{1, 2, 10, 1000, 1001, 1002, 2000} {
			for _, at := range []int{0, n / 2, n - 1} {
				l := repeated(q(top, 1), n)
				l[at] = wrong
				sum, e := ratio.Sum(l)
				check(t, fmt.Sprintf("%v at %d of %d", wrong, at, n), sum, e, q(0, 0), api.ErrArg)
			}
		}
	}
}

// P5.1 and P5.5: the exact sum of each list, whatever the order of its ratios and the parts of the sum are.
func TestSums(t *testing.T) {
	counts := map[api.Errno]int{}
	for _, l := range randomLists() {
		want, wantError := slowSum(l)
		counts[wantError]++
		sorted := slices.Clone(l)
		slices.SortFunc(sorted, ratio.Cmp)
		reversed := slices.Clone(l)
		slices.Reverse(reversed)
		for _, m := range [][]api.Ratio{l, sorted, reversed} {
			r, e := ratio.Sum(m)
			check(t, fmt.Sprintf("the sum of %v", m), r, e, want, wantError)
		}
	}
	if counts[api.OK] < 1000 || counts[api.ErrRange] < 200 {
		t.Errorf("only these results were tried: %v", counts)
	}
}

// P5.5: Sum is Add, one after the other, where no partial sum is out of range.
func TestSumIsAdd(t *testing.T) {
	visited, skipped := 0, 0
	for _, l := range randomLists() {
		sum, e := q(0, 1), api.OK
		for _, r := range l {
			if e == api.OK {
				sum, e = ratio.Add(sum, r)
			}
		}
		if e != api.OK {
			skipped++
			continue
		}
		visited++
		r, e := ratio.Sum(l)
		check(t, fmt.Sprintf("the sum of %v", l), r, e, sum, api.OK)
	}
	if visited < 500 || skipped < 100 {
		t.Errorf("only %d lists were tried, %d were not", visited, skipped)
	}
}

// P5.5 and P1: the longest sums, in several orders, of which only the result is short.
func TestLongSums(t *testing.T) {
	l := primeDenominators(499)
	l = append(l, opposites(l)...)
	l = append(l, q(1, 3), q(-1, 2))
	source := rand.New(rand.NewSource(6))
	for range 3 {
		r, e := ratio.Sum(l)
		check(t, "499 primes, their opposites, 1/3 and -1/2", r, e, q(-1, 6), api.OK)
		source.Shuffle(len(l), func(i, j int) { l[i], l[j] = l[j], l[i] })
	}
	r, e := ratio.Sum(primeDenominators(1000))
	check(t, "1000 primes", r, e, q(0, 0), api.ErrRange)
}

// P1: a sum does not change its list, nor what lies behind it, and is the same again.
func TestSumKeepsItsList(t *testing.T) {
	for _, l := range randomLists() {
		kept := append(slices.Clone(l), q(9, 9))
		given := slices.Clone(kept)
		r, e := ratio.Sum(given[:len(l)])
		again, d := ratio.Sum(given[:len(l)])
		check(t, "the second sum", again, d, r, e)
		if !slices.Equal(given, kept) {
			t.Errorf("%v is changed to %v", kept, given)
		}
	}
}
