package edge

import (
	"math"
	"slices"
	"testing"
)

const (
	tiny  = math.SmallestNonzeroFloat64
	great = math.MaxFloat64
)

var (
	nan      = math.NaN()
	otherNan = math.Float64frombits(0xfff8000000000123)
	low      = math.Inf(-1)
	high     = math.Inf(1)
	minus    = math.Copysign(0, -1)
)

// equal holds floats against each other by number, sign and NaN, without the package's own Compare.
func equal(x, y float64) bool {
	if math.IsNaN(x) || math.IsNaN(y) {
		return math.IsNaN(x) && math.IsNaN(y)
	}
	return x == y && math.Signbit(x) == math.Signbit(y)
}

// ordered is one float of each kind and edge, each but the first two above the one ahead of it.
func ordered() []float64 {
	return []float64{otherNan, nan, low, -great, -2, -1.5, -tiny, minus, 0, tiny, 1.5, 2, great, high}
}

// P1.1: Kind.
func TestKind(t *testing.T) {
	for _, c := range []struct {
		x    float64
		want int
	}{
		{nan, Nan}, {otherNan, Nan}, {low, Low}, {high, High},
		{-great, Negative}, {-1, Negative}, {-tiny, Negative},
		{minus, Nought}, {0, Nought},
		{tiny, Positive}, {1, Positive}, {great, Positive},
	} {
		if got := Kind(c.x); got != c.want {
			t.Errorf("Kind(%v) = %d, want %d", c.x, got, c.want)
		}
	}
	if kinds := []int{Nan, Low, Negative, Nought, Positive, High}; !slices.Equal(kinds, []int{0, 1, 2, 3, 4, 5}) {
		t.Errorf("kinds are %v", kinds)
	}
}

// P1.1: Compare and Same, each float against each.
func TestCompareAndSame(t *testing.T) {
	row := ordered()
	for i, x := range row {
		for k, y := range row {
			// The first two are NaNs, which share one place.
			want := compareInts(max(i, 1), max(k, 1))
			if got := Compare(x, y); got != want {
				t.Errorf("Compare(%v, %v) = %d, want %d", x, y, got, want)
			}
			if got := Same(x, y); got != (want == 0) {
				t.Errorf("Same(%v, %v) = %t, want %t", x, y, got, want == 0)
			}
		}
	}
}

func compareInts(i, k int) int {
	switch {
	case i < k:
		return -1
	case i > k:
		return 1
	}
	return 0
}

// P1.2: Clamp.
func TestClamp(t *testing.T) {
	for _, c := range []struct{ x, lo, hi, want float64 }{
		// Within, at the bounds, beyond them.
		{1.5, 1, 2, 1.5}, {1, 1, 2, 1}, {2, 1, 2, 2}, {0, 1, 2, 1}, {3, 1, 2, 2}, {3, 2, 2, 2},
		// Infinities, as floats and as bounds.
		{low, -1, 1, -1}, {high, -1, 1, 1}, {great, low, high, great}, {low, low, high, low}, {high, low, high, high},
		{5, high, high, high}, {5, low, low, low},
		// The noughts differ.
		{minus, 0, 1, 0}, {minus, minus, 1, minus}, {0, -1, minus, minus}, {0, -1, 0, 0}, {0, minus, minus, minus}, {minus, 0, 0, 0},
		{minus, minus, 0, minus}, {0, minus, 0, 0},
		// NaN.
		{nan, 1, 2, 1}, {nan, 2, 1, 2}, {nan, nan, 2, nan},
		// Bounds turned about.
		{1, 2, 1, 2}, {0, 2, 1, 2}, {3, 2, 1, 2}, {1.5, 2, 1, 2}, {0, 0, minus, 0}, {minus, 0, minus, 0}, {5, high, low, high},
		// Bounds that are NaN.
		{1, nan, 2, nan}, {3, nan, 2, nan}, {1, 0, nan, 0}, {-1, 0, nan, 0}, {1, nan, nan, nan}, {low, low, nan, low},
	} {
		if got := Clamp(c.x, c.lo, c.hi); !equal(got, c.want) {
			t.Errorf("Clamp(%v, %v, %v) = %v, want %v", c.x, c.lo, c.hi, got, c.want)
		}
	}
}

// P1.2: Ratio.
func TestRatio(t *testing.T) {
	for _, c := range []struct {
		a, b int
		want float64
	}{
		{1, 2, 0.5}, {-1, 2, -0.5}, {1, -4, -0.25}, {-3, -2, 1.5}, {7, 7, 1}, {1, 3, 1.0 / 3},
		{0, 5, 0}, {0, -5, minus},
		{0, 0, nan}, {5, 0, high}, {1, 0, high}, {-1, 0, low}, {-5, 0, low}, {math.MaxInt, 0, high}, {math.MinInt, 0, low},
		{math.MinInt, -1, -float64(math.MinInt)}, {math.MaxInt, 1, float64(math.MaxInt)}, {math.MinInt, math.MinInt, 1},
	} {
		if got := Ratio(c.a, c.b); !equal(got, c.want) {
			t.Errorf("Ratio(%d, %d) = %v, want %v", c.a, c.b, got, c.want)
		}
	}
}

// P1.2: Share.
func TestShare(t *testing.T) {
	below := math.Nextafter(1, 0)
	for _, c := range []struct {
		x    float64
		n    int
		want int
	}{
		{0.5, 8, 4}, {0, 8, 0}, {minus, 8, 0}, {tiny, 8, 0}, {0.125, 8, 1}, {0.1249, 8, 0}, {0.999, 8, 7}, {below, 8, 7},
		{1, 8, 7}, {1.5, 8, 7}, {great, 8, 7}, {high, 8, 7},
		{nan, 8, 0}, {-tiny, 8, 0}, {-0.5, 8, 0}, {-1, 8, 0}, {low, 8, 0},
		{0.5, 1, 0}, {1, 1, 0}, {below, 1, 0},
		{0.5, 0, 0}, {1, 0, 0}, {0.5, -3, 0}, {2, -3, 0}, {high, math.MinInt, 0}, {nan, 0, 0}, {below, 7, 6},
		// The product is one of floats: 0.7 is a little below seven tenths, 0.7 times 10 is 7.
		{0.7, 10, 7}, {0.1, 10, 1}, {1.0 / 3, 3, 1},
		{1, math.MaxInt, math.MaxInt - 1}, {0.5, math.MaxInt, 1 << 62}, {0, math.MaxInt, 0},
		// As floats the first is rounded up to 2^62, the second down to 2^53, the third up to 2^63.
		{below, 1<<62 - 255, 1<<62 - 512}, {below, 1<<53 + 1, 1<<53 - 1}, {below, math.MaxInt, math.MaxInt - 1023},
	} {
		if got := Share(c.x, c.n); got != c.want {
			t.Errorf("Share(%v, %d) = %d, want %d", c.x, c.n, got, c.want)
		}
	}
}

// P1.2: Share never leaves the places that there are.
func TestShareStaysWithin(t *testing.T) {
	below := math.Nextafter(1, 0)
	for _, n := range []int{1, 2, 3, 10, 1<<53 - 1, 1<<53 + 1, 1<<54 + 2, 1<<60 + 129, 1<<62 - 1, math.MaxInt} {
		for _, x := range []float64{0, 0.3, 0.5, 1 - 1e-9, below, 1, high} {
			if got := Share(x, n); got < 0 || got >= n {
				t.Errorf("Share(%v, %d) = %d", x, n, got)
			}
		}
	}
}

// P1.3: Sum.
func TestSum(t *testing.T) {
	for _, c := range []struct {
		l    []float64
		want float64
	}{
		{nil, 0}, {[]float64{}, 0}, {[]float64{minus}, 0}, {[]float64{minus, minus}, 0},
		{[]float64{1, 2, 0.5}, 3.5}, {[]float64{-1, 1}, 0}, {[]float64{-3}, -3},
		// In order: the small one is lost behind the great one, and is kept behind both.
		{[]float64{1e300, 1, -1e300}, 0}, {[]float64{1e300, -1e300, 1}, 1},
		{[]float64{nan}, nan}, {[]float64{1, nan, 2}, nan}, {[]float64{nan, high}, nan}, {[]float64{1, 2, otherNan}, nan},
		{[]float64{high, 1}, high}, {[]float64{1, low, -5}, low}, {[]float64{high, high}, high}, {[]float64{low, low}, low},
		{[]float64{high, low}, nan}, {[]float64{low, 1, high}, nan}, {[]float64{high, low, 1}, nan}, {[]float64{high, low, high}, nan},
		// A sum of finite ones may become infinite.
		{[]float64{great, great}, high}, {[]float64{great, great, -great}, high}, {[]float64{great, great, low}, nan},
	} {
		was := slices.Clone(c.l)
		if got := Sum(c.l); !equal(got, c.want) {
			t.Errorf("Sum(%v) = %v, want %v", c.l, got, c.want)
		}
		unchanged(t, c.l, was)
	}
}

// P1.3: Max.
func TestMax(t *testing.T) {
	for _, c := range []struct {
		l    []float64
		want float64
	}{
		{[]float64{3}, 3}, {[]float64{1, 3, 2}, 3}, {[]float64{-3, -1, -2}, -1}, {[]float64{5, 4, 3}, 5}, {[]float64{2, 2}, 2},
		{[]float64{minus}, minus}, {[]float64{minus, 0}, 0}, {[]float64{0, minus}, 0}, {[]float64{minus, -1}, minus},
		{[]float64{nan}, nan}, {[]float64{nan, otherNan}, nan}, {[]float64{nan, low}, low}, {[]float64{low, nan}, low}, {[]float64{1, nan, 2}, 2},
		{[]float64{great, high}, high}, {[]float64{high, great, nan}, high}, {[]float64{low, -great}, -great}, {[]float64{low}, low},
	} {
		was := slices.Clone(c.l)
		if got, ok := Max(c.l); !ok || !equal(got, c.want) {
			t.Errorf("Max(%v) = %v, %t, want %v", c.l, got, ok, c.want)
		}
		unchanged(t, c.l, was)
	}
	for _, l := range [][]float64{nil, {}} {
		if got, ok := Max(l); ok || !equal(got, 0) {
			t.Errorf("Max of none = %v, %t", got, ok)
		}
	}
}

// unchanged asks that a list that was handed in is as it was (R4).
func unchanged(t *testing.T, l, was []float64) {
	t.Helper()
	if !slices.EqualFunc(l, was, equal) {
		t.Errorf("%v became %v", was, l)
	}
}
