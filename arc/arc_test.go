package arc_test

import (
	"math/rand"
	"slices"
	"testing"

	"fretsaw/api"
	"fretsaw/arc"
	"fretsaw/ring"
)

// P11.1: the examples of the chapter.
func TestExamples(t *testing.T) {
	if l, e := arc.Flatten(api.Arc{From: v(5, 0), To: v(0, 5)}, 1); e != api.OK || !slices.Equal(l, list(5, 0, 4, 4, 0, 5)) {
		t.Errorf("the chain of the arc: %v, %v", l, e)
	}
	if r, e := arc.Circle(v(0, 0), 1, 1); e != api.OK || !slices.Equal(r, list(0, -1, 1, 0, 0, 1, -1, 0)) {
		t.Errorf("the circle: %v, %v", r, e)
	}
	if arc.MaxTolerance != 50 {
		t.Errorf("the greatest tolerance is %d", arc.MaxTolerance)
	}
}

// P11.1: known roots.
func TestRootKnown(t *testing.T) {
	for n, want := range map[int]int{
		0: 0, 1: 1, 2: 1, 3: 1, 4: 2, 8: 2, 9: 3, 15: 3, 16: 4, 99: 9, 100: 10, -1: 0, -4: 0, -5: 0, -100: 0, least: 0, least + 1: 0, -1 << 32: 0,
		1 << 62: 1 << 31, 1<<62 - 1: 1<<31 - 1, most: 3037000499, most - 1: 3037000499, 3037000499 * 3037000499: 3037000499, 3037000499*3037000499 - 1: 3037000498, 1 << 52: 1 << 26, 1<<54 - 1: 1<<27 - 1, 65536 * 4000000: 512000,
	} {
		if root := arc.Root(n); root != want {
			t.Errorf("the root of %d: %d", n, root)
		}
	}
}

// P11.1: the square of a root is at most the number, and that of the next number is greater.
func TestRootDefinition(t *testing.T) {
	source := rand.New(rand.NewSource(111))
	var numbers []int
	for n := range 100000 {
		numbers = append(numbers, n, most-n)
	}
	for range 20000 {
		root := source.Intn(3037000500) >> source.Intn(31)
		numbers = append(numbers, root*root-1, root*root, root*root+1, root*root+root, source.Intn(most)>>source.Intn(63))
	}
	for bit := range 63 {
		numbers = append(numbers, 1<<bit, 1<<bit-1, 1<<bit+1)
	}
	for _, n := range numbers {
		if root := arc.Root(n); n >= 0 && !isRoot(root, n) || n < 0 && root != 0 {
			t.Errorf("the root of %d: %d", n, root)
		}
		if root := arc.Root(-n); n > 0 && root != 0 {
			t.Errorf("the root of %d: %d", -n, root)
		}
	}
}

// P11.1: known arcs, valid or not, up to the limits.
func TestValidKnown(t *testing.T) {
	for _, a := range []api.Arc{
		{From: v(1, 0), To: v(1, 0)}, {From: v(5, 0), To: v(3, 4)}, {From: v(5, 0), To: v(3, 4), Clockwise: true}, {From: v(0, 2000), To: v(-2000, 0)}, {From: v(1200, 1600), To: v(0, 2000)}, {From: v(1999, 63), To: v(63, -1999)},
		{From: v(2000, 0), To: v(0, 2000), Center: v(2000, 2000)}, {From: v(-2000, 0), To: v(-2000, 0), Center: v(-2000, 2000)}, {From: v(2000, 1999), To: v(1999, 2000), Center: v(2000, 2000)}, {From: v(-1999, -2000), To: v(-2000, -1999), Center: v(-2000, -2000)},
	} {
		if !arc.Valid(a) {
			t.Errorf("%v is not valid", a)
		}
	}
	for _, a := range brokenArcs() {
		if arc.Valid(a) {
			t.Errorf("%v is valid", a)
		}
	}
}

// changed returns an arc of which one of the coordinates is replaced.
func changed(a api.Arc, coordinate, n int) api.Arc {
	*[]*int{&a.From.X, &a.From.Y, &a.To.X, &a.To.Y, &a.Center.X, &a.Center.Y}[coordinate] = n
	return a
}

// P11.1: an arc is valid by the definition, also if one or two of its coordinates are replaced.
func TestValidDefinition(t *testing.T) {
	source := rand.New(rand.NewSource(112))
	counts := map[bool]int{}
	for i, a := range arcs() {
		tried := []api.Arc{a}
		coordinates := []int{a.From.X, a.From.Y, a.To.X, a.To.Y, a.Center.X, a.Center.Y}
		for k, n := range coordinates {
			tried = append(tried, changed(a, k, n-1), changed(a, k, n+1), changed(a, k, -n), changed(a, k, farNumbers()[i%len(farNumbers())]))
			far := farNumbers()[source.Intn(len(farNumbers()))]
			tried = append(tried, changed(changed(a, k, far), source.Intn(6), far), changed(changed(a, k, n+1), (k+2)%6, coordinates[(k+2)%6]+1))
		}
		for _, b := range tried {
			counts[isArc(b)]++
			if arc.Valid(b) != isArc(b) {
				t.Errorf("%v is valid: %v", b, arc.Valid(b))
			}
		}
	}
	if min(counts[false], counts[true]) < 2000 {
		t.Errorf("only these were tried: %v", counts)
	}
}

// P11.1: squared distances that differ by little are not equal, whichever one is greater.
func TestValidDistances(t *testing.T) {
	counts := map[int]int{}
	for x := 1900; x <= 2000; x++ {
		for y := range 632 {
			for _, step := range []api.Vec{v(-1, 63), v(-2, 89), v(0, 1), v(-15, 244)} {
				p, q := v(x, y), plus(v(x, y), step)
				difference := dot(p, p) - dot(q, q)
				if difference < -2 || difference > 2 {
					continue
				}
				counts[difference]++
				a := ccw(v(0, 0), p, q)
				if want := difference == 0 && dot(p, p) <= limit*limit; arc.Valid(a) != want || arc.Valid(opposite(a)) != want {
					t.Errorf("%v is valid: %v", a, !want)
				}
			}
		}
	}
	if counts[0] == 0 || counts[1]+counts[-1] == 0 {
		t.Errorf("only these differences: %v", counts)
	}
}

// P11.1: an arc that is not valid is ErrArg, ahead of ErrRange for the tolerance, and there is no chain.
func TestFlattenErrors(t *testing.T) {
	far := []int{0, -1, -2, -50, 51, 52, 1 << 32, 1<<32 + 1, 1<<56 + 5, -1 << 56, most, least, least + 1}
	for _, tolerance := range append([]int{1, 2, 49, 50}, far...) {
		for _, a := range brokenArcs() {
			if l, e := arc.Flatten(a, tolerance); e != api.ErrArg || len(l) > 0 {
				t.Errorf("%v with the tolerance %d: %v, %v", a, tolerance, l, e)
			}
		}
	}
	for _, a := range smallArcs() {
		for _, tolerance := range far {
			if l, e := arc.Flatten(a, tolerance); e != api.ErrRange || len(l) > 0 {
				t.Errorf("%v with the tolerance %d: %v, %v", a, tolerance, l, e)
			}
		}
		for _, tolerance := range []int{1, 50} {
			if l, e := arc.Flatten(a, tolerance); e != api.OK || len(l) < 2 {
				t.Errorf("%v with the tolerance %d: %v, %v", a, tolerance, l, e)
			}
		}
	}
}

// P11.1: known chains.
func TestFlattenKnown(t *testing.T) {
	for _, c := range []struct {
		a         api.Arc
		tolerance int
		want      []api.Vec
	}{
		{api.Arc{From: v(5, 0), To: v(0, 5)}, 2, list(5, 0, 0, 5)},
		{api.Arc{From: v(0, 5), To: v(5, 0), Clockwise: true}, 1, list(0, 5, 4, 4, 5, 0)},
		{api.Arc{From: v(0, 5), To: v(5, 0)}, 2, list(0, 5, -5, 0, 0, -5, 5, 0)},
		{api.Arc{From: v(5, 0), To: v(3, 4)}, 1, list(5, 0, 3, 4)},
		{api.Arc{From: v(5, 0), To: v(-3, 4)}, 2, list(5, 0, 0, 5, -3, 4)},
		{api.Arc{From: v(3, 4), To: v(5, 0)}, 2, list(3, 4, -4, 3, -3, -4, 4, -3, 5, 0)},
		{api.Arc{From: v(1, 0), To: v(1, 0)}, 50, list(1, 0, 0, 1, -1, 0, 0, -1, 1, 0)},
		{api.Arc{From: v(1, 0), To: v(1, 0), Clockwise: true}, 1, list(1, 0, 0, -1, -1, 0, 0, 1, 1, 0)},
		{api.Arc{From: v(2, 1), To: v(0, 1), Center: v(1, 1)}, 1, list(2, 1, 1, 2, 0, 1)},
		{api.Arc{From: v(2, 2), To: v(2, 2), Center: v(1, 1), Clockwise: true}, 1, list(2, 2, 2, 0, 0, 0, 0, 2, 2, 2)},
		{api.Arc{From: v(2000, 0), To: v(0, 2000), Center: v(2000, 2000), Clockwise: true}, 50, list(2000, 0, 1235, 152, 586, 586, 152, 1235, 0, 2000)},
	} {
		if l, e := arc.Flatten(c.a, c.tolerance); e != api.OK || !slices.Equal(l, c.want) {
			t.Errorf("%v with the tolerance %d: %v, %v; it should be %v", c.a, c.tolerance, l, e, c.want)
		}
	}
}

// P11.1: there is nothing between two points of which the middle is one of them, though their chord is not close: such are (41, 40) and (40, 40), and (40, 40) and (40, 41).
func TestMiddleThatIsAnEnd(t *testing.T) {
	l := list(54, 19, 48, 30, 45, 36, 43, 38, 42, 39, 41, 40, 40, 40, 40, 41, 39, 42, 38, 43, 36, 45, 30, 48, 19, 54)
	for range 4 {
		for _, center := range []api.Vec{v(0, 0), v(-7, 1946), v(1946, -1946)} {
			a := ccw(center, l[0], l[len(l)-1])
			want := moved(l, center)
			if m, e := arc.Flatten(a, 1); e != api.OK || !slices.Equal(m, want) {
				t.Errorf("%v: %v, %v; it should be %v", a, m, e, want)
			}
			if m, e := arc.Flatten(opposite(a), 1); e != api.OK || !slices.Equal(m, reversed(want)) {
				t.Errorf("%v: %v, %v; it should be %v", opposite(a), m, e, reversed(want))
			}
		}
		// The arc is turned by 90 degrees, and its chain with it.
		for i, p := range l {
			l[i] = v(-p.Y, p.X)
		}
	}
}

// P11.1: chains are those of the model; there are short ones, long ones, and ones with points beyond the limits of coordinates.
func TestFlattenDefinition(t *testing.T) {
	counts := map[string]int{}
	for i, a := range arcs() {
		for _, tolerance := range tolerances(i) {
			want := chain(a, tolerance)
			if l, e := arc.Flatten(a, tolerance); e != api.OK || !slices.Equal(l, want) {
				t.Errorf("%v with the tolerance %d: %v, %v; it should be %v", a, tolerance, l, e, want)
			}
			switch {
			case slices.ContainsFunc(want, func(p api.Vec) bool { return !isInLimits(p) }):
				counts["beyond"]++
			case len(want) == 2:
				counts["short"]++
			case len(want) > 40:
				counts["long"]++
			}
		}
	}
	if min(counts["beyond"], counts["short"], counts["long"]) < 100 {
		t.Errorf("only these were tried: %v", counts)
	}
}

// P11.1: every tolerance, for arcs of many radii.
func TestFlattenTolerances(t *testing.T) {
	lengths := map[int]bool{}
	for radius := 1; radius <= limit; radius += 1 + radius/20 {
		for tolerance := 1; tolerance <= arc.MaxTolerance; tolerance++ {
			a := ccw(v(radius-limit, limit-radius), v(0, radius), v(-radius, 0))
			want := chain(a, tolerance)
			lengths[len(want)] = true
			if l, e := arc.Flatten(a, tolerance); e != api.OK || !slices.Equal(l, want) {
				t.Errorf("%v with the tolerance %d: %v, %v; it should be %v", a, tolerance, l, e, want)
			}
		}
	}
	if len(lengths) < 5 {
		t.Errorf("only these lengths: %v", lengths)
	}
}

// P11.1: a circle that is no valid arc is ErrArg, ahead of ErrRange for the tolerance, ahead of the errors of cleaning.
func TestCircleErrors(t *testing.T) {
	for _, c := range []struct {
		center    api.Vec
		radius    int
		tolerance int
		want      api.Errno
	}{
		{v(0, 0), 2001, 1, api.ErrArg}, {v(0, 0), 0, 1, api.ErrArg}, {v(0, 0), -1, 1, api.ErrArg}, {v(0, 0), -2000, 1, api.ErrArg}, {v(0, 0), least, 1, api.ErrArg}, {v(0, 0), most, 1, api.ErrArg},
		{v(2000, 0), 1, 1, api.ErrArg}, {v(1999, 0), 1, 1, api.OK}, {v(1999, 0), 2, 1, api.ErrArg}, {v(-2000, 0), 2001, 1, api.ErrArg}, {v(-2000, 0), 4000, 1, api.ErrArg}, {v(-2001, 0), 1, 1, api.ErrArg}, {v(0, 2001), 1, 1, api.ErrArg}, {v(0, -2001), 1, 1, api.ErrArg},
		{v(2001, 0), -1, 1, api.ErrArg}, {v(2000, 0), -1, 1, api.ErrArg}, {v(0, 0), -5, 1, api.ErrArg}, {v(-1, 0), 1<<32 + 1, 1, api.ErrArg}, {v(0, 0), 1 << 32, 1, api.ErrArg},
		{v(most, 0), most, 1, api.ErrArg}, {v(least, 0), most, 1, api.ErrArg}, {v(most, 0), 1, 1, api.ErrArg}, {v(most, most), 1, 1, api.ErrArg}, {v(least, least), least, 1, api.ErrArg}, {v(0, least), 1, 1, api.ErrArg}, {v(0, most), 1, 1, api.ErrArg}, {v(least, 0), 1, 1, api.ErrArg}, {v(most, 0), least, 1, api.ErrArg},
		{v(0, 0), 0, 0, api.ErrArg}, {v(2001, 0), 1, 51, api.ErrArg}, {v(0, 0), 2001, -1, api.ErrArg}, {v(0, 0), least, least, api.ErrArg}, {v(0, 0), most, most, api.ErrArg},
		{v(0, 0), 1, 0, api.ErrRange}, {v(0, 0), 1, 51, api.ErrRange}, {v(0, 0), 2000, -1, api.ErrRange}, {v(0, 0), 1, least, api.ErrRange}, {v(0, 0), 1, most, api.ErrRange}, {v(1, 2000), 1, 0, api.ErrRange}, {v(0, 0), 2000, 51, api.ErrRange},
		{v(0, 2000), 1, 1, api.ErrRange}, {v(0, -2000), 1, 1, api.ErrRange}, {v(-2000, 0), 1, 1, api.ErrRange}, {v(-2000, 0), 2000, 50, api.ErrRange}, {v(0, 1), 2000, 50, api.ErrRange}, {v(0, 1), 2000, 1, api.ErrRange}, {v(0, 1), 1999, 50, api.OK}, {v(0, -1), 2000, 50, api.ErrRange},
		{v(0, 0), 2000, 1, api.ErrShape}, {v(0, 0), 2000, 50, api.OK}, {v(0, 0), 1, 1, api.OK}, {v(0, 0), 1, 50, api.OK}, {v(-1999, 1999), 1, 1, api.OK}, {v(-1999, -1999), 1, 50, api.OK},
	} {
		r, e := arc.Circle(c.center, c.radius, c.tolerance)
		if e != c.want || (len(r) == 0) != (e != api.OK) {
			t.Errorf("the circle around %v with the radius %d and the tolerance %d: %v, %v; it should be %v", c.center, c.radius, c.tolerance, r, e, c.want)
		}
	}
}

// P11.1: the smallest circles are squares with every tolerance, at the limits, too.
func TestSmallCircles(t *testing.T) {
	for _, radius := range []int{1, 2} {
		far := limit - radius
		for _, center := range []api.Vec{v(0, 0), v(5, -7), v(far, far), v(-far, far), v(far, -far), v(-far, -far)} {
			want := moved(list(0, -radius, radius, 0, 0, radius, -radius, 0), center)
			for tolerance := 1; tolerance <= arc.MaxTolerance; tolerance++ {
				if r, e := arc.Circle(center, radius, tolerance); e != api.OK || !slices.Equal(r, want) {
					t.Errorf("the circle around %v with the radius %d and the tolerance %d: %v, %v", center, radius, tolerance, r, e)
				}
			}
		}
	}
}

// P11.1: a circle is the ring that results from cleaning the chain of the full circle.
func TestCircleDefinition(t *testing.T) {
	counts := map[api.Errno]int{}
	for radius := 1; radius <= limit; radius += 1 + radius/9 {
		far := limit - radius
		for _, center := range []api.Vec{v(0, 0), v(far, far), v(-far, -far), v(far/2, -far), v(-far-1, 0), v(0, far+1), v(far/2, -far-1), v(-limit, -limit), v(-radius/2, limit), v(far+1, 0), v(limit, 0)} {
			for tolerance := 1; tolerance <= arc.MaxTolerance; tolerance++ {
				var want api.Ring
				wantError := api.ErrArg
				if a := ccw(center, v(radius, 0), v(radius, 0)); isArc(a) {
					want, wantError = ring.Clean(chain(a, tolerance))
				}
				counts[wantError]++
				if r, e := arc.Circle(center, radius, tolerance); e != wantError || !slices.Equal(r, want) {
					t.Errorf("the circle around %v with the radius %d and the tolerance %d: %v, %v; it should be %v, %v", center, radius, tolerance, r, e, want, wantError)
				}
			}
		}
	}
	if min(counts[api.OK], counts[api.ErrArg], counts[api.ErrRange], counts[api.ErrShape]) < 10 {
		t.Errorf("only these were tried: %v", counts)
	}
}
