package vec

import (
	"math"
	"math/big"
	"slices"
	"testing"

	"switchboard/api"
)

const (
	one = api.One
	top = api.Top
)

// edges are the numbers at which something turns: around 0, One and Top, on
// both sides, and the ends of an int.
func edges() []int {
	return []int{
		0, 1, -1, one / 2, -one / 2, one - 1, 1 - one, one, -one, one + 1, -one - 1, 3 * one, -3 * one,
		top - 1, 1 - top, top, -top, top + 1, -top - 1, 1 << 32, -1 << 32, 1 << 40, -1 << 40,
		math.MaxInt - 1, math.MinInt + 1, math.MaxInt, math.MinInt,
	}
}

// rows are all rows of at most two edges, and some that are longer.
func rows() [][]int {
	list := [][]int{nil, {}}
	for _, a := range edges() {
		list = append(list, []int{a})
		for _, b := range edges() {
			list = append(list, []int{a, b})
		}
	}
	return append(list,
		[]int{one, 2 * one, 3 * one}, []int{top, top, -top}, []int{-top, top, top}, []int{math.MinInt, math.MaxInt, 1},
		edges(), turned(edges()), make([]int, len(edges())))
}

func turned(a []int) []int {
	row := slices.Clone(a)
	slices.Reverse(row)
	return row
}

// held, and what is wanted by it, take numbers without an end and not layer 1,
// so that nothing wraps round in them.
func held(n *big.Int) *big.Int {
	high, low := big.NewInt(top), big.NewInt(-top)
	if n.Cmp(high) > 0 {
		return high
	}
	if n.Cmp(low) < 0 {
		return low
	}
	return n
}

func number(n int) *big.Int {
	return held(big.NewInt(int64(n)))
}

func product(a, b int) *big.Int {
	p := new(big.Int).Mul(number(a), number(b))
	return held(p.Quo(p, big.NewInt(one)))
}

func wantDot(a, b []int) (int, bool) {
	if len(a) != len(b) {
		return 0, false
	}
	sum := new(big.Int)
	for i := range a {
		sum = held(new(big.Int).Add(sum, product(a[i], b[i])))
	}
	return int(sum.Int64()), true
}

func wantAdd(a, b []int) ([]int, bool) {
	if len(a) != len(b) {
		return nil, false
	}
	var sums []int
	for i := range a {
		sums = append(sums, int(held(new(big.Int).Add(number(a[i]), number(b[i]))).Int64()))
	}
	return sums, true
}

func wantScale(a []int, k int) []int {
	var row []int
	for _, n := range a {
		row = append(row, int(product(n, k).Int64()))
	}
	return row
}

func wantRelu(a []int) []int {
	var row []int
	for _, n := range a {
		if n <= 0 {
			row = append(row, 0)
		} else {
			row = append(row, int(number(n).Int64()))
		}
	}
	return row
}

// P2.1, Dot.
func TestDot(t *testing.T) {
	for _, c := range []struct {
		a, b []int
		want int
	}{
		{[]int{one, 2 * one}, []int{3 * one, one}, 5 * one}, // the chapter's example
		{nil, nil, 0}, {[]int{}, []int{}, 0}, {nil, []int{}, 0}, {[]int{}, nil, 0},
		{[]int{0}, []int{top}, 0}, {[]int{one}, []int{7}, 7}, {[]int{-2 * one}, []int{3 * one}, -6 * one},
		{[]int{one, -2 * one, 3 * one}, []int{one, one, one}, 2 * one},
		// What is left over is cut off from each product, not from their sum.
		{[]int{one / 2, one / 2}, []int{1, 1}, 0}, {[]int{-3, -3}, []int{one / 2, one / 2}, -2}, {[]int{3, -3}, []int{one / 2, one / 2}, 0},
		// The sum is held on the way, and what is behind is added to what was held.
		{[]int{top, top, -top}, []int{one, one, one}, 0}, {[]int{top, -top, top}, []int{one, one, one}, top}, {[]int{-top, top, top}, []int{one, one, one}, top},
		{[]int{-top, -top, top}, []int{one, one, one}, 0}, {[]int{top, one, -5}, []int{one, one, one}, top - 5}, {[]int{-top, -one, 5}, []int{one, one, one}, 5 - top},
		{[]int{top - 1, 1, -1}, []int{one, one, one}, top - 1}, {[]int{top - 1, 2, -2}, []int{one, one, one}, top - 2},
		// Each product is held, too.
		{[]int{top, -one}, []int{2 * one, one}, top - one}, {[]int{top, top}, []int{top, -top}, 0}, {[]int{top, top, one}, []int{-top, one, one}, one},
		// The numbers are held ahead of the product.
		{[]int{1 << 40, 1}, []int{1, one}, 32768}, {[]int{-1 << 40}, []int{1}, -32767},
		{[]int{math.MaxInt, math.MinInt}, []int{one, one}, 0}, {[]int{math.MinInt}, []int{-1}, 32767}, {[]int{math.MinInt}, []int{math.MinInt}, top},
		{[]int{math.MaxInt}, []int{math.MinInt}, -top}, {[]int{math.MaxInt, math.MaxInt}, []int{one, one}, top}, {[]int{math.MinInt, 0}, []int{0, math.MaxInt}, 0},
	} {
		if got, ok := Dot(c.a, c.b); got != c.want || !ok {
			t.Errorf("Dot(%v, %v): %d, %t, not %d", c.a, c.b, got, ok, c.want)
		}
	}
}

// P2.1, Add.
func TestAdd(t *testing.T) {
	for _, c := range []struct{ a, b, want []int }{
		{nil, nil, nil}, {[]int{}, []int{}, nil}, {nil, []int{}, nil}, {[]int{}, nil, nil},
		{[]int{1}, []int{2}, []int{3}}, {[]int{0, 0}, []int{0, 0}, []int{0, 0}}, {[]int{1, -2, 3}, []int{10, 20, -30}, []int{11, 18, -27}},
		{[]int{1, top}, []int{-3, 1}, []int{-2, top}}, {[]int{-top, -top + 1}, []int{-1, -1}, []int{-top, -top}},
		// A sum that was held does nothing to the next one.
		{[]int{top, one, -top}, []int{top, one, -top}, []int{top, 2 * one, -top}},
		// The numbers are held ahead of the sum.
		{[]int{top + 5, -top - 5}, []int{-5, 5}, []int{top - 5, 5 - top}}, {[]int{1 << 40}, []int{-1 << 50}, []int{0}},
		{[]int{math.MaxInt, math.MinInt, math.MaxInt}, []int{1, -1, math.MinInt}, []int{top, -top, 0}},
		{[]int{math.MaxInt, math.MinInt}, []int{math.MaxInt, math.MinInt}, []int{top, -top}},
	} {
		if got, ok := Add(c.a, c.b); !slices.Equal(got, c.want) || !ok {
			t.Errorf("Add(%v, %v): %v, %t, not %v", c.a, c.b, got, ok, c.want)
		}
	}
}

// P2.1: rows that are not equally long.
func TestUnlikeRows(t *testing.T) {
	for _, c := range []struct{ a, b []int }{
		{nil, []int{one}}, {[]int{}, []int{one}}, {[]int{0}, nil}, {[]int{one}, []int{one, one}}, {[]int{one}, []int{one, 0}},
		{[]int{one, one, one}, []int{one, one}}, {[]int{math.MaxInt}, []int{math.MinInt, math.MinInt}}, {make([]int, 99), make([]int, 100)},
	} {
		for _, p := range [][2][]int{{c.a, c.b}, {c.b, c.a}} {
			if n, ok := Dot(p[0], p[1]); n != 0 || ok {
				t.Errorf("Dot(%v, %v): %d, %t", p[0], p[1], n, ok)
			}
			if l, ok := Add(p[0], p[1]); len(l) != 0 || ok {
				t.Errorf("Add(%v, %v): %v, %t", p[0], p[1], l, ok)
			}
		}
	}
}

// P2.1, Scale.
func TestScale(t *testing.T) {
	for _, c := range []struct {
		a    []int
		k    int
		want []int
	}{
		{nil, one, nil}, {[]int{}, math.MinInt, nil},
		{[]int{one, -2 * one, 0}, 3 * one, []int{3 * one, -6 * one, 0}}, {[]int{one, -5}, -one, []int{-one, 5}}, {[]int{4, -4}, one / 2, []int{2, -2}},
		{[]int{one, top, math.MinInt}, 0, []int{0, 0, 0}},
		// What is left over is cut off towards 0.
		{[]int{3, -3, 1, -1}, one / 2, []int{1, -1, 0, 0}}, {[]int{3, -3}, -one / 2, []int{-1, 1}},
		// Numbers, k and products are held.
		{[]int{top, -top, top - 1}, 2 * one, []int{top, -top, top}}, {[]int{top + 1, -top - 1, 1 << 40}, one, []int{top, -top, top}},
		{[]int{1, -1, one}, 1 << 40, []int{32767, -32767, top}}, {[]int{1, -1, one}, -1 << 40, []int{-32767, 32767, -top}},
		{[]int{math.MaxInt, math.MinInt, 1}, math.MaxInt, []int{top, -top, 32767}}, {[]int{math.MaxInt, math.MinInt, -1}, math.MinInt, []int{-top, top, 32767}},
		{[]int{math.MaxInt, math.MinInt}, -1, []int{-32767, 32767}},
	} {
		if got := Scale(c.a, c.k); !slices.Equal(got, c.want) {
			t.Errorf("Scale(%v, %d): %v, not %v", c.a, c.k, got, c.want)
		}
	}
}

// P2.1, Relu.
func TestRelu(t *testing.T) {
	for _, c := range []struct{ a, want []int }{
		{nil, nil}, {[]int{}, nil},
		{[]int{-1, 0, 1}, []int{0, 0, 1}}, {[]int{5, -5, one, -one, 3}, []int{5, 0, one, 0, 3}},
		{[]int{top - 1, top, top + 1, 1 << 40, math.MaxInt}, []int{top - 1, top, top, top, top}},
		{[]int{1 - top, -top, -top - 1, -1 << 40, math.MinInt}, []int{0, 0, 0, 0, 0}},
	} {
		if got := Relu(c.a); !slices.Equal(got, c.want) {
			t.Errorf("Relu(%v): %v, not %v", c.a, got, c.want)
		}
	}
}

// check holds all four calls at a, b and k against numbers without an end
// (P2.1), and the two calls of two rows against themselves, turned round (P2.2).
func check(t *testing.T, a, b []int, k int) {
	t.Helper()
	n, ok := Dot(a, b)
	if want, wantOK := wantDot(a, b); n != want || ok != wantOK {
		t.Errorf("Dot(%v, %v): %d, %t, not %d, %t", a, b, n, ok, want, wantOK)
	}
	if m, same := Dot(b, a); m != n || same != ok {
		t.Errorf("Dot of %v and %v: %d, %t, and turned round %d, %t", a, b, n, ok, m, same)
	}
	l, ok := Add(a, b)
	if want, wantOK := wantAdd(a, b); !slices.Equal(l, want) || ok != wantOK {
		t.Errorf("Add(%v, %v): %v, %t, not %v, %t", a, b, l, ok, want, wantOK)
	}
	if m, same := Add(b, a); !slices.Equal(m, l) || same != ok {
		t.Errorf("Add of %v and %v: %v, %t, and turned round %v, %t", a, b, l, ok, m, same)
	}
	if got, want := Scale(a, k), wantScale(a, k); !slices.Equal(got, want) {
		t.Errorf("Scale(%v, %d): %v, not %v", a, k, got, want)
	}
	if got, want := Relu(a), wantRelu(a); !slices.Equal(got, want) {
		t.Errorf("Relu(%v): %v, not %v", a, got, want)
	}
}

// P2.1 and P2.2, at every pair of rows.
func TestRowsAgainstBig(t *testing.T) {
	all := rows()
	for i, a := range all {
		for _, b := range all {
			check(t, a, b, edges()[i%len(edges())])
		}
	}
}

// P2.1, at each edge times each.
func TestScaleAgainstBig(t *testing.T) {
	for _, k := range edges() {
		if got, want := Scale(edges(), k), wantScale(edges(), k); !slices.Equal(got, want) {
			t.Errorf("Scale by %d: %v, not %v", k, got, want)
		}
	}
}

// R1: a and b are afterwards what they were, up to the end of their memory, and
// an answer shares none of it, also where both rows are one.
func TestRowsStay(t *testing.T) {
	room := turned(edges())
	a, b := room[:5:9], edges()[:5]
	was, other := slices.Clone(room), slices.Clone(b)
	calls := []func() []int{
		func() []int { n, _ := Dot(a, b); return []int{n} },
		func() []int { n, _ := Dot(a, a); return []int{n} },
		func() []int { n, _ := Dot(a, b[:4]); return []int{n} },
		func() []int { l, _ := Add(a, b); return l },
		func() []int { l, _ := Add(a, a); return l },
		func() []int { l, _ := Add(a, b[:4]); return l },
		func() []int { l, _ := Add(a[:0], b[:0]); return l },
		func() []int { return Scale(a, 2*one) },
		func() []int { return Scale(a, one) },
		func() []int { return Scale(a[:0], one) },
		func() []int { return Relu(a) },
		func() []int { return Relu(a[:0]) },
	}
	for i, call := range calls {
		answer := call()
		answer = answer[:cap(answer)]
		for j := range answer {
			answer[j] = 77
		}
		if !slices.Equal(room, was) || !slices.Equal(b, other) {
			t.Fatalf("call %d changed a row: %v, %v", i, room, b)
		}
	}
}

// R4: what was asked ahead does nothing to an answer, and no two answers share
// memory.
func TestAnswersAreApart(t *testing.T) {
	a, b := []int{one, -one}, []int{one, one}
	sums, _ := Add(a, b)
	scaled, above := Scale(a, 2*one), Relu(a)
	for range 2 {
		check(t, a, b, 2*one)
		check(t, b, a, -one)
	}
	if !slices.Equal(sums, []int{2 * one, 0}) || !slices.Equal(scaled, []int{2 * one, -2 * one}) || !slices.Equal(above, []int{one, 0}) {
		t.Errorf("later calls changed %v, %v, %v", sums, scaled, above)
	}
}

// P2.1: a row may be longer than a token.
func TestLongRows(t *testing.T) {
	a, b := make([]int, 100000), make([]int, 100000)
	for i := range a {
		a[i], b[i] = i-50000, one*(i%3)
	}
	check(t, a, b, -3*one)
	check(t, a, b[1:], 0)
}

func FuzzRowsAgainstBig(f *testing.F) {
	f.Add(one, 2*one, 3*one, 3*one, one, one)
	f.Add(math.MinInt, math.MaxInt, top, one, one, -one)
	f.Fuzz(func(t *testing.T, a, b, c, d, e, g int) {
		check(t, []int{a, b, c}, []int{d, e, g}, d)
		check(t, []int{a, b, c}, []int{d, e}, e)
	})
}
