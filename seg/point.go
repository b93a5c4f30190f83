package seg

import (
	"cmp"

	"fretsaw/api"
	"fretsaw/vec"
)

// maxDen is the greatest denominator of a valid point. It is enough for all crossings of valid segments: a cross product of
// two vectors between points within the limit is at most twice the square of 8000.
const maxDen = 1 << 27

// maxCompared is the greatest absolute value of a coordinate of a point that is compared.
const maxCompared = 2000

// PointOf returns an integer point as a rational one.
func PointOf(p api.Vec) api.Point { return api.Point{X: p.X, Y: p.Y, Den: 1} }

// ValidPoint reports whether a rational point is valid.
func ValidPoint(p api.Point) bool {
	return isWithin(p, Limit) && gcd(gcd(p.X, p.Y), p.Den) == 1
}

// isWithin reports whether a point has a permitted denominator, and coordinates within a limit. The denominator is looked at
// first, so that the product does not wrap around.
func isWithin(p api.Point, limit int) bool {
	return 1 <= p.Den && p.Den <= maxDen && vec.Within(api.Vec{X: p.X, Y: p.Y}, limit*p.Den)
}

// ComparePoints compares two rational points by Y, and then by X.
func ComparePoints(p, q api.Point) int {
	if !isCompared(p) || !isCompared(q) {
		return 0
	}
	return cmp.Or(compareQuotients(p.Y, p.Den, q.Y, q.Den), compareQuotients(p.X, p.Den, q.X, q.Den))
}

func isCompared(p api.Point) bool { return isWithin(p, maxCompared) && ValidPoint(p) }

// compareQuotients compares a / m and b / n. The whole parts come first, as the products a * n and b * m may be too great;
// those of the remainders are less than the square of maxDen.
func compareQuotients(a, m, b, n int) int {
	return cmp.Or(cmp.Compare(a/m, b/n), cmp.Compare(a%m*n, b%n*m))
}

// Whole returns the integer point that a rational one is.
func Whole(p api.Point) (api.Vec, bool) {
	if p.Den != 1 || !ValidPoint(p) {
		return api.Vec{}, false
	}
	return api.Vec{X: p.X, Y: p.Y}, true
}

// lowest returns the point x / den, y / den in lowest terms.
func lowest(x, y, den int) api.Point {
	common := gcd(gcd(x, y), den)
	return api.Point{X: x / common, Y: y / common, Den: den / common}
}

// gcd returns the greatest common divisor of two numbers, without a sign; it is 0 for 0 and 0.
func gcd(a, b int) int {
	for b != 0 {
		a, b = b, a%b
	}
	if a < 0 {
		return -a
	}
	return a
}
