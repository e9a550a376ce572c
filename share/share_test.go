package share

import (
	"math"
	"math/big"
	"testing"

	"switchboard/api"
)

// edges are the numbers at which something could turn: around 0, One and Top,
// around the ends of shorter integers, and the ends of an int.
func edges() []int {
	return []int{
		0, 1, 2, 3, -1, -2, -3, 5, 7, -7, 100, 255, 256,
		api.One - 2, api.One - 1, api.One, api.One + 1, -api.One - 1, -api.One, -api.One + 1,
		2*api.One - 1, 2 * api.One, 1 << 30, 1<<30 - 1, -1 << 30,
		api.Top - 2, api.Top - 1, api.Top, api.Top + 1, api.Top + 2,
		-api.Top - 2, -api.Top - 1, -api.Top, -api.Top + 1, -api.Top + 2,
		1<<32 - 1, 1 << 32, 1<<32 + 1, -1<<32 - 1, -1 << 32, -1<<32 + 1,
		1 << 40, -1 << 40, 1 << 46, 1 << 47, 1 << 48, -1 << 48, 1 << 62, -1 << 62,
		math.MaxInt - 1, math.MinInt + 1, math.MaxInt, math.MinInt,
	}
}

// want is P5.1 in numbers without an end, in the order of its words: held, 0 if
// below 0, and 1 more; then how often the sum goes in.
func want(a, b int) (int, int) {
	x, y := bigWeight(a), bigWeight(b)
	one := big.NewInt(1 << 16)
	first := new(big.Int).Mul(x, one)
	first.Quo(first, new(big.Int).Add(x, y))
	rest := new(big.Int).Sub(one, first)
	return int(first.Int64()), int(rest.Int64())
}

func bigWeight(n int) *big.Int {
	w, top := big.NewInt(int64(n)), big.NewInt(1<<31-1)
	if w.Cmp(top) > 0 {
		w = top
	}
	if w.Sign() < 0 {
		w = new(big.Int)
	}
	return new(big.Int).Add(w, big.NewInt(1))
}

// check holds a call against what is wanted, and against what follows of it.
func check(t *testing.T, a, b int) {
	t.Helper()
	first, second := Shares(a, b)
	if x, y := want(a, b); first != x || second != y {
		t.Errorf("Shares(%d, %d): %d, %d, not %d, %d", a, b, first, second, x, y)
	}
	checkFollows(t, a, b, first, second)
}

// checkFollows is P5.2, told by the numbers and the shares alone.
func checkFollows(t *testing.T, a, b, first, second int) {
	t.Helper()
	if first < 0 || second < 0 || first+second != 65536 {
		t.Errorf("Shares(%d, %d): %d, %d: below 0, or not One together", a, b, first, second)
	}
	if a > b && first < second || a < b && second < first {
		t.Errorf("Shares(%d, %d): %d, %d: the greater number has less", a, b, first, second)
	}
	if a == b && first != second {
		t.Errorf("Shares(%d, %d): %d, %d: the same number has another share", a, b, first, second)
	}
}

// P5.1: what goes in, and what is left.
func TestShares(t *testing.T) {
	const half, top = 32768, 1<<31 - 1
	for _, c := range []struct{ a, b, first, second int }{
		{5, 5, half, half}, // the chapter's example
		// Both the same.
		{0, 0, half, half}, {1, 1, half, half}, {2, 2, half, half}, {65536, 65536, half, half}, {top, top, half, half},
		// The first one greater, and the second one: 1 more counts.
		{2, 0, 49152, 16384}, {0, 2, 16384, 49152}, {5, 1, 49152, 16384}, {1, 5, 16384, 49152},
		{6, 0, 57344, 8192}, {0, 6, 8192, 57344}, {1, 0, 43690, 21846}, {0, 1, 21845, 43691},
		{65536, 0, 65535, 1}, {0, 65536, 0, 65536}, {65536, 131072, 21845, 43691}, {131072, 65536, 43690, 21846},
		// Below 0 is 0.
		{-1, 0, half, half}, {0, -1, half, half}, {-1, -1, half, half}, {-7, -9, half, half}, {-9, -7, half, half}, {-2, 0, half, half}, {0, -2, half, half},
		{2, -1, 49152, 16384}, {-1, 2, 16384, 49152}, {2, -2, 49152, 16384}, {2, -100, 49152, 16384}, {-65536, 6, 8192, 57344}, {6, -65536, 57344, 8192},
		{math.MinInt, math.MinInt, half, half}, {math.MinInt, 0, half, half}, {0, math.MinInt, half, half}, {math.MinInt, 2, 16384, 49152}, {2, math.MinInt, 49152, 16384}, {-top - 1, 2, 16384, 49152},
		// Where a share turns, and just short of that: nothing is rounded up.
		{0, 65533, 1, 65535}, {0, 65534, 1, 65535}, {0, 65535, 0, 65536}, {65533, 0, 65534, 2}, {65534, 0, 65535, 1}, {65535, 0, 65535, 1},
		{0, 43688, 1, 65535}, {0, 32766, 2, 65534}, {0, 32767, 1, 65535},
		// At what is held, and beyond.
		{top, 0, 65535, 1}, {0, top, 0, 65536}, {top + 1, 0, 65535, 1}, {0, top + 1, 0, 65536}, {math.MaxInt, 0, 65535, 1}, {0, math.MaxInt, 0, 65536},
		{top, top + 1, half, half}, {top + 1, top, half, half}, {top, math.MaxInt, half, half}, {math.MaxInt, top, half, half}, {math.MaxInt, math.MaxInt, half, half},
		{1 << 40, 1 << 50, half, half}, {1 << 32, 5, 65535, 1}, {5, 1 << 32, 0, 65536}, {math.MaxInt, math.MinInt, 65535, 1}, {math.MinInt, math.MaxInt, 0, 65536}, {top, -top, 65535, 1}, {-top, top, 0, 65536},
		// 1 more than Top is not held again: 2^31 beside one less, two less, and half of it.
		{top, top - 1, half, half}, {top - 1, top, 32767, 32769}, {top, top - 2, half, half}, {top - 2, top, 32767, 32769}, {top, 1<<30 - 1, 43690, 21846}, {1<<30 - 1, top, 21845, 43691},
		{math.MaxInt, 1<<30 - 1, 43690, 21846}, {1<<30 - 1, math.MaxInt, 21845, 43691}, {top, 32767, 65535, 1}, {32767, top, 0, 65536}, {top, 32768, 65534, 2}, {32768, top, 1, 65535},
	} {
		if first, second := Shares(c.a, c.b); first != c.first || second != c.second {
			t.Errorf("Shares(%d, %d): %d, %d, not %d, %d", c.a, c.b, first, second, c.first, c.second)
		}
		check(t, c.a, c.b)
	}
}

// P5.1, P5.2: all pairs of little numbers, below 0 and above.
func TestAllLittleNumbers(t *testing.T) {
	for a := -20; a < 300; a++ {
		for b := -20; b < 300; b++ {
			check(t, a, b)
		}
	}
}

// P5.1, P5.2: each edge beside each other one.
func TestEdges(t *testing.T) {
	for _, a := range edges() {
		for _, b := range edges() {
			check(t, a, b)
		}
	}
}

// P5.1: what goes in is told exactly: as often as it is told x + y is in x
// times One, and once more it is not.
func TestNothingIsRounded(t *testing.T) {
	for _, y := range []int{1, 2, 3, 7, 1000, 65535, 65536, 1 << 20, 1 << 31} {
		for _, x := range []int{1, 2, 3, 5, 999, 65535, 65537, 1<<20 + 1, 1<<31 - 1, 1 << 31} {
			first, second := Shares(x-1, y-1)
			left := x*65536 - first*(x+y)
			if left < 0 || left >= x+y || second != 65536-first {
				t.Errorf("Shares(%d, %d): %d, %d leaves %d of %d", x-1, y-1, first, second, left, x+y)
			}
		}
	}
}

// P5.1: what is below 0 has the share of 0, and what is beyond Top that of Top,
// whatever stands beside it.
func TestHeldAndNotBelow0(t *testing.T) {
	for _, b := range edges() {
		low, lowRest := Shares(0, b)
		high, highRest := Shares(api.Top, b)
		for _, far := range []int{1, 2, 7, api.One, api.Top, api.Top + 1, 1 << 32, 1 << 47, 1 << 62, math.MaxInt - api.Top} {
			if x, y := Shares(-far, b); x != low || y != lowRest {
				t.Errorf("Shares(%d, %d): %d, %d, but of 0 it is %d, %d", -far, b, x, y, low, lowRest)
			}
			if x, y := Shares(api.Top+far, b); x != high || y != highRest {
				t.Errorf("Shares(%d, %d): %d, %d, but of Top it is %d, %d", api.Top+far, b, x, y, high, highRest)
			}
		}
	}
}

// P5.2: as a number grows beside another one, its share never shrinks.
func TestMoreIsNotLess(t *testing.T) {
	for _, b := range edges() {
		was := 0
		for a := -5; a < 70000; a += 3 {
			first, second := Shares(a, b)
			if first < was {
				t.Fatalf("Shares(%d, %d): %d, but one that is less had %d", a, b, first, was)
			}
			checkFollows(t, a, b, first, second)
			was = first
		}
	}
}

// P5.1, P5.2, P1: numbers of every length, mixed.
func TestMixedNumbers(t *testing.T) {
	mixed := 5
	next := func() int {
		mixed = mixed*6364136223846793005 + 1442695040888963407 // wraps round
		return mixed
	}
	for range 100000 {
		a, b := next()>>(uint(next())>>58), next()>>(uint(next())>>58)
		check(t, a, b)
		check(t, a, a)
		check(t, a>>1, a)
	}
}

// R4: an answer hangs on both numbers alone, and not on what else was asked.
func TestNothingIsKept(t *testing.T) {
	for range 3 {
		check(t, 5, 5)
		check(t, 0, math.MaxInt)
		check(t, math.MinInt, 2)
		check(t, 2, 0)
	}
}

func FuzzSharesAgainstBig(f *testing.F) {
	f.Add(5, 5)
	f.Add(api.Top, api.Top+1)
	f.Add(math.MinInt, math.MaxInt)
	f.Fuzz(func(t *testing.T, a, b int) {
		check(t, a, b)
		check(t, b, a)
		check(t, int(int32(a)), int(int32(b)))
	})
}
