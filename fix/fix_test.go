package fix

import (
	"math"
	"math/big"
	"testing"

	"switchboard/api"
)

const (
	one = api.One
	top = api.Top
)

// edges are the numbers at which something turns: around 0, One and Top, on
// both sides, roots of what Mul reaches, and the ends of an int.
func edges() []int {
	around := []int{0, one / 2, one, 3 * one / 2, 2 * one, 1 << 23, 1 << 24, 11863283, 1 << 30, top / 2, top, 2 * top, 1 << 32, 1 << 47, 1 << 62}
	list := []int{math.MaxInt, math.MaxInt - 1, math.MinInt, math.MinInt + 1}
	for _, n := range around {
		for d := -2; d <= 2; d++ {
			list = append(list, n+d, -(n + d))
		}
	}
	return list
}

// bigHold, and the wanted answers by it, take numbers without an end, so that
// nothing wraps round in them.
func bigHold(n *big.Int) *big.Int {
	high, low := big.NewInt(top), big.NewInt(-top)
	if n.Cmp(high) > 0 {
		return high
	}
	if n.Cmp(low) < 0 {
		return low
	}
	return n
}

func held(n int) *big.Int {
	return bigHold(big.NewInt(int64(n)))
}

func wantAdd(a, b int) int {
	return int(bigHold(new(big.Int).Add(held(a), held(b))).Int64())
}

func wantSub(a, b int) int {
	return int(bigHold(new(big.Int).Sub(held(a), held(b))).Int64())
}

func wantMul(a, b int) int {
	product := new(big.Int).Mul(held(a), held(b))
	return int(bigHold(product.Quo(product, big.NewInt(one))).Int64())
}

// P1.1, Hold.
func TestHold(t *testing.T) {
	for _, c := range []struct{ n, want int }{
		{0, 0}, {1, 1}, {-1, -1}, {one, one}, {-one, -one},
		{top - 1, top - 1}, {top, top}, {top + 1, top}, {top + 2, top},
		{-top + 1, -top + 1}, {-top, -top}, {-top - 1, -top}, {-top - 2, -top},
		{1 << 32, top}, {-1 << 32, -top}, {1 << 40, top}, {-1 << 40, -top},
		{math.MaxInt, top}, {math.MinInt, -top},
	} {
		if got := Hold(c.n); got != c.want {
			t.Errorf("Hold(%d): %d, not %d", c.n, got, c.want)
		}
	}
}

// P1.1, Add.
func TestAdd(t *testing.T) {
	for _, c := range []struct{ a, b, want int }{
		{0, 0, 0}, {1, 2, 3}, {-1, 2, 1}, {one, -3 * one, -2 * one},
		{top - 1, 1, top}, {top, 0, top}, {top, 1, top}, {top, top, top}, {top, -1, top - 1},
		{-top + 1, -1, -top}, {-top, 0, -top}, {-top, -1, -top}, {-top, -top, -top}, {-top, 1, -top + 1},
		{top, -top, 0},
		// Both are held ahead of the sum.
		{2 * top, -top, 0}, {top + 5, -5, top - 5}, {-top - 5, 5, -top + 5}, {1 << 40, -1 << 50, 0},
		{math.MaxInt, 1, top}, {math.MaxInt, math.MaxInt, top},
		{math.MinInt, -1, -top}, {math.MinInt, math.MinInt, -top},
		{math.MaxInt, math.MinInt, 0}, {math.MinInt, top, 0}, {math.MaxInt, -one, top - one},
	} {
		if got := Add(c.a, c.b); got != c.want {
			t.Errorf("Add(%d, %d): %d, not %d", c.a, c.b, got, c.want)
		}
	}
}

// P1.1, Sub.
func TestSub(t *testing.T) {
	for _, c := range []struct{ a, b, want int }{
		{0, 0, 0}, {3, 2, 1}, {2, 3, -1}, {one, 3 * one, -2 * one}, {-one, -one, 0},
		{top, -1, top}, {top - 1, -1, top}, {top, top, 0}, {top, -top, top}, {top, 1, top - 1},
		{-top, 1, -top}, {-top + 1, 1, -top}, {-top, -top, 0}, {-top, top, -top}, {-top, -1, -top + 1},
		{0, top, -top}, {0, -top, top},
		// Both are held ahead of the difference.
		{2 * top, top, 0}, {top + 5, 5, top - 5}, {-top - 5, -5, -top + 5}, {0, 1 << 40, -top},
		{math.MaxInt, math.MinInt, top}, {math.MinInt, math.MaxInt, -top},
		{math.MaxInt, math.MaxInt, 0}, {math.MinInt, math.MinInt, 0},
		{0, math.MinInt, top}, {math.MinInt, 1, -top}, {-one, math.MinInt, top - one},
	} {
		if got := Sub(c.a, c.b); got != c.want {
			t.Errorf("Sub(%d, %d): %d, not %d", c.a, c.b, got, c.want)
		}
	}
}

// P1.1, Mul.
func TestMul(t *testing.T) {
	for _, c := range []struct{ a, b, want int }{
		{3 * one, one / 2, 98304}, // the chapter's example
		{0, 0, 0}, {0, top, 0}, {2 * one, 3 * one, 6 * one}, {-2 * one, 3 * one, -6 * one}, {-2 * one, -3 * one, 6 * one},
		// What is left over is cut off towards 0, on both sides.
		{1, 1, 0}, {-1, 1, 0}, {-1, -1, 0}, {1, one - 1, 0}, {-1, one - 1, 0}, {1, one + 1, 1}, {-1, one + 1, -1},
		{3, one / 2, 1}, {-3, one / 2, -1}, {3, -one / 2, -1}, {-3, -one / 2, 1},
		{-one - 1, one - 1, -one + 1}, {one + 1, one - 1, one - 1}, {-5, one / 3, -1}, {5, one / 3, 1},
		// The greatest products that are still between -Top and Top, and those beyond.
		{top, one, top}, {top, one + 1, top}, {top, -one - 1, -top}, {top, one - 1, 2147450879}, {top, 1 - one, -2147450879},
		{1 << 24, 1 << 22, 1 << 30}, {1 << 24, 1 << 23, top}, {1 << 24, 1<<23 - 1, top - 255}, {1 << 24, -1 << 23, -top}, {1 << 24, 1 - 1<<23, 255 - top},
		{top, top, top}, {top, -top, -top}, {-top, top, -top}, {-top, -top, top}, {top, 1, 32767}, {-top, 1, -32767},
		// Both are held ahead of the product.
		{1 << 40, 1, 32767}, {-1 << 40, 1, -32767}, {1 << 40, one / 2, top / 2}, {1 << 32, 1 << 32, top}, {1 << 62, 4, 131071},
		{math.MaxInt, math.MaxInt, top}, {math.MinInt, math.MinInt, top}, {math.MinInt, -1, 32767},
		{math.MaxInt, math.MinInt, -top}, {math.MaxInt, 0, 0}, {math.MinInt, 0, 0}, {math.MaxInt, one, top}, {math.MinInt, one, -top},
	} {
		if got := Mul(c.a, c.b); got != c.want {
			t.Errorf("Mul(%d, %d): %d, not %d", c.a, c.b, got, c.want)
		}
	}
}

// P1.1, at every pair of edges, held against numbers without an end.
func TestEdgesAgainstBig(t *testing.T) {
	for _, a := range edges() {
		if got, want := Hold(a), int(held(a).Int64()); got != want {
			t.Errorf("Hold(%d): %d, not %d", a, got, want)
		}
		for _, b := range edges() {
			if got, want := Add(a, b), wantAdd(a, b); got != want {
				t.Errorf("Add(%d, %d): %d, not %d", a, b, got, want)
			}
			if got, want := Sub(a, b), wantSub(a, b); got != want {
				t.Errorf("Sub(%d, %d): %d, not %d", a, b, got, want)
			}
			if got, want := Mul(a, b), wantMul(a, b); got != want {
				t.Errorf("Mul(%d, %d): %d, not %d", a, b, got, want)
			}
		}
	}
}

// P1.2: sums and products do not hang on their order.
func TestOrder(t *testing.T) {
	for _, a := range edges() {
		for _, b := range edges() {
			if Add(a, b) != Add(b, a) {
				t.Errorf("Add of %d and %d: %d, and turned round %d", a, b, Add(a, b), Add(b, a))
			}
			if Mul(a, b) != Mul(b, a) {
				t.Errorf("Mul of %d and %d: %d, and turned round %d", a, b, Mul(a, b), Mul(b, a))
			}
		}
	}
}

// P1.2: One times a number is it (held, where it is beyond Top).
func TestOneTimes(t *testing.T) {
	for _, n := range edges() {
		want := int(held(n).Int64())
		if Mul(one, n) != want || Mul(n, one) != want {
			t.Errorf("One times %d: %d, and turned round %d, not %d", n, Mul(one, n), Mul(n, one), want)
		}
	}
}

func FuzzAgainstBig(f *testing.F) {
	f.Add(3*one, one/2)
	f.Add(math.MinInt, math.MaxInt)
	f.Fuzz(func(t *testing.T, a, b int) {
		if Add(a, b) != wantAdd(a, b) || Sub(a, b) != wantSub(a, b) || Mul(a, b) != wantMul(a, b) {
			t.Errorf("%d, %d: %d, %d, %d", a, b, Add(a, b), Sub(a, b), Mul(a, b))
		}
	})
}
