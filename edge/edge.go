// Package edge tells floats apart, at their edges too: NaN, the infinities, the signed noughts. See DOC.md, chapter 1.
package edge

import (
	"cmp"
	"math"
)

// Kinds of floats, in the order in which Compare has them.
const (
	Nan = iota
	Low
	Negative
	Nought
	Positive
	High
)

// Kind tells of which kind x is; both noughts are Nought.
func Kind(x float64) int {
	switch {
	case math.IsNaN(x):
		return Nan
	case math.IsInf(x, -1):
		return Low
	case x < 0:
		return Negative
	case math.IsInf(x, 1):
		return High
	case x > 0:
		return Positive
	}
	return Nought
}

// Compare is one order of all floats: the NaNs, all equal, ahead of all others, -0 ahead of 0, else by number.
func Compare(x, y float64) int {
	kind := Kind(x)
	if by := cmp.Compare(kind, Kind(y)); by != 0 {
		return by
	}
	switch kind {
	case Nought:
		return cmp.Compare(noughtPlace(x), noughtPlace(y))
	case Negative, Positive:
		return cmp.Compare(x, y)
	}
	return 0
}

// noughtPlace tells the noughts apart, which the language holds for equal.
func noughtPlace(x float64) int {
	if math.Signbit(x) {
		return 0
	}
	return 1
}

// Same tells whether x and y are equal by Compare.
func Same(x, y float64) bool { return Compare(x, y) == 0 }

// Clamp is x held between lo and hi, by Compare; lo where x or a bound is NaN, or lo is above hi.
func Clamp(x, lo, hi float64) float64 {
	switch {
	case Kind(x) == Nan || Kind(lo) == Nan || Kind(hi) == Nan:
		return lo
	case Compare(lo, hi) > 0 || Compare(x, lo) < 0:
		return lo
	case Compare(x, hi) > 0:
		return hi
	}
	return x
}

// Ratio is a divided by b as floats; by 0 it is NaN of 0, else the infinity of a's sign.
func Ratio(a, b int) float64 {
	switch {
	case b != 0:
		return float64(a) / float64(b)
	case a != 0:
		return math.Inf(a)
	}
	return math.NaN()
}

// Share is the place among n that the share x of them says, from 0 to n - 1; 0 where there is none.
func Share(x float64, n int) int {
	switch {
	case n < 1 || Kind(x) < Nought:
		return 0
	case x >= 1:
		return n - 1
	}
	// n as a float and the product are rounded, perhaps upwards: no place beyond the last may come of it.
	return min(int(x*float64(n)), n-1)
}

// Sum adds the floats of l to 0 in their order.
func Sum(l []float64) float64 {
	sum := 0.0
	for _, x := range l {
		// A NaN once in the sum stays, and infinities of two signs make one.
		sum += x
	}
	return sum
}

// Max is the greatest of l by Compare, the first of equal ones; false of none.
func Max(l []float64) (float64, bool) {
	if len(l) == 0 {
		return 0, false
	}
	most := l[0]
	for _, x := range l[1:] {
		if Compare(x, most) > 0 {
			most = x
		}
	}
	return most, true
}
