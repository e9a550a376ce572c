package mat

import (
	"math"
	"math/big"
	"slices"
	"testing"

	"switchboard/api"
)

const (
	one = api.One
	top = api.Top
)

// edges are the numbers at which something turns: around 0, One and Top, on
// both sides, and the ends of an int.
func edges() []int {
	return []int{
		0, 1, -1, one / 2, -one / 2, one - 1, 1 - one, one, -one, one + 1, -one - 1, 3 * one, -3 * one,
		top - 1, 1 - top, top, -top, top + 1, -top - 1, 1 << 32, -1 << 32, 1 << 40, -1 << 40,
		math.MaxInt - 1, math.MinInt + 1, math.MaxInt, math.MinInt,
	}
}

// sizes are numbers of rows and of columns, right ones and wrong ones.
func sizes() []int {
	return []int{0, 1, 2, 3, 4, 8, 27, -1, -2, top, top + 1, -top, 1 << 32, -1 << 32, math.MaxInt, math.MaxInt - 1, math.MinInt, math.MinInt + 1}
}

// matrices have no rows, one and many; rows of no number, one and many; rows
// that are alike and rows of which one, wherever it stands, is shorter or
// longer than the others.
func matrices() [][][]int {
	return [][][]int{
		nil, {}, {nil}, {{}}, {nil, {}}, {{}, {}, nil}, {{one}}, {{top}}, {{-top}}, {{top + 1}}, {{math.MinInt}}, {{0}, {1}, {-1}},
		{{one, 0}, {0, one}}, {{one, 2 * one}, {3 * one, -one}, {-5, 7}}, {{top, -top}, {-top, top}}, {{1, 2}, {3, top + 1}}, {{-top - 1, 2}, {3, 4}},
		{{1}, {1, 2}}, {{1, 2}, {1}}, {{}, {1}}, {{1}, nil}, {{1, 2}, {3}, {4, 5}}, {{1, 2}, {3, 4}, {5, 6, 7}}, {{1, 2, 3}, {4, 5}, {6, 7}},
		{{one, one, one}, {top, top, -top}, {-top, top, top}}, {{math.MaxInt, math.MinInt, 1}, {1 << 40, -1 << 40, one}}, {edges(), turned(edges()), make([]int, len(edges()))},
	}
}

// rows are what the matrices are applied to.
func rows() [][]int {
	list := [][]int{nil, {}, edges(), turned(edges()), {one, one, one}, {-one, 2 * one, top}, {math.MinInt, math.MaxInt, top + 1}, make([]int, 8)}
	for _, a := range edges() {
		list = append(list, []int{a}, []int{a, one}, []int{math.MinInt, a}, []int{a, a, -one})
	}
	return list
}

func turned(a []int) []int {
	row := slices.Clone(a)
	slices.Reverse(row)
	return row
}

// copied shares no memory with m, nor do its rows.
func copied(m [][]int) [][]int {
	var list [][]int
	for _, row := range m {
		list = append(list, slices.Clone(row))
	}
	return list
}

// behind: the rows of a, and behind them those of b.
func behind(a, b [][]int) [][]int {
	return append(slices.Clone(a), b...)
}

// wantRight counts all that is wrong, and does not stop at what is first.
func wantRight(m [][]int, rows, columns int) bool {
	wrong := 0
	for _, row := range m {
		if len(row) != columns {
			wrong++
		}
		for _, n := range row {
			if n > top || n < -top {
				wrong++
			}
		}
	}
	return wrong == 0 && len(m) == rows
}

// held, and what is wanted by it, take numbers without an end and not the
// layers below, so that nothing wraps round in them.
func held(n *big.Int) *big.Int {
	high, low := big.NewInt(top), big.NewInt(-top)
	if n.Cmp(high) > 0 {
		return high
	}
	if n.Cmp(low) < 0 {
		return low
	}
	return n
}

func number(n int) *big.Int {
	return held(big.NewInt(int64(n)))
}

func wantDot(a, b []int) int {
	sum := new(big.Int)
	for i := range a {
		p := new(big.Int).Mul(number(a[i]), number(b[i]))
		sum = held(new(big.Int).Add(sum, held(p.Quo(p, big.NewInt(one)))))
	}
	return int(sum.Int64())
}

func wantApply(m [][]int, v []int) ([]int, bool) {
	for _, row := range m {
		if len(row) != len(v) {
			return nil, false
		}
	}
	var dots []int
	for _, row := range m {
		dots = append(dots, wantDot(row, v))
	}
	return dots, true
}

// P3.1, Right: rows that are right.
func TestRight(t *testing.T) {
	for _, c := range []struct {
		m             [][]int
		rows, columns int
	}{
		{[][]int{{one}}, 1, 1}, {[][]int{{1, 2, 3}}, 1, 3}, {[][]int{{1}, {2}, {3}}, 3, 1}, {[][]int{{1, 2}, {3, 4}, {5, 6}}, 3, 2}, {[][]int{{one, 0}, {0, one}}, 2, 2},
		// Top and -Top themselves, wherever they stand.
		{[][]int{{top}}, 1, 1}, {[][]int{{-top}}, 1, 1}, {[][]int{{top, -top}, {-top, top}}, 2, 2}, {[][]int{{0, 0, top}, {0, 0, 0}, {-top, 0, 0}}, 3, 3}, {[][]int{{top - 1, 1 - top}}, 1, 2},
		// Rows of no number.
		{[][]int{nil}, 1, 0}, {[][]int{{}}, 1, 0}, {[][]int{{}, nil, {}}, 3, 0},
		// More rows, and longer ones, than any model has.
		{make([][]int, 1000), 1000, 0}, {[][]int{make([]int, 1000), make([]int, 1000)}, 2, 1000},
	} {
		if !Right(c.m, c.rows, c.columns) {
			t.Errorf("Right(%v, %d, %d): false", c.m, c.rows, c.columns)
		}
	}
}

// P3.1, Right: rows that are not.
func TestNotRight(t *testing.T) {
	for _, c := range []struct {
		m             [][]int
		rows, columns int
	}{
		// Too few rows, and too many.
		{[][]int{{1, 2}}, 2, 2}, {[][]int{{1, 2}, {3, 4}, {5, 6}}, 2, 2}, {nil, 1, 1}, {nil, 1, 0}, {[][]int{}, 1, 0}, {[][]int{{}}, 0, 0}, {[][]int{{}}, 2, 0}, {[][]int{nil}, 0, 0},
		// Rows and columns in each other's place, and as many numbers in all.
		{[][]int{{1, 2, 3}}, 3, 1}, {[][]int{{1}, {2}, {3}}, 1, 3}, {[][]int{{1, 2, 3}, {4}}, 2, 2}, {[][]int{{1, 2}, {3, 4}, {5, 6}}, 2, 3},
		// A row too short, and one too long: the first, one within, the last, and all.
		{[][]int{{1}, {3, 4}, {5, 6}}, 3, 2}, {[][]int{{1, 2}, {3}, {5, 6}}, 3, 2}, {[][]int{{1, 2}, {3, 4}, {5}}, 3, 2}, {[][]int{{1, 2}, {3, 4}, nil}, 3, 2},
		{[][]int{{1, 2, 0}, {3, 4}, {5, 6}}, 3, 2}, {[][]int{{1, 2}, {3, 4, 0}, {5, 6}}, 3, 2}, {[][]int{{1, 2}, {3, 4}, {5, 6, 0}}, 3, 2},
		{[][]int{{1, 2}, {3, 4}}, 2, 1}, {[][]int{{1, 2}, {3, 4}}, 2, 3}, {[][]int{{1}}, 1, 0}, {[][]int{{}}, 1, 1},
		// A number above Top, or below -Top: first, within, last.
		{[][]int{{top + 1}}, 1, 1}, {[][]int{{-top - 1}}, 1, 1}, {[][]int{{1 << 31}}, 1, 1}, {[][]int{{-1 << 31}}, 1, 1},
		{[][]int{{top + 1, 0}, {0, 0}}, 2, 2}, {[][]int{{0, top + 1}, {0, 0}}, 2, 2}, {[][]int{{0, 0}, {top + 1, 0}}, 2, 2}, {[][]int{{0, 0}, {0, top + 1}}, 2, 2},
		{[][]int{{-top - 1, 0}, {0, 0}}, 2, 2}, {[][]int{{0, -top - 1}, {0, 0}}, 2, 2}, {[][]int{{0, 0}, {-top - 1, 0}}, 2, 2}, {[][]int{{0, 0}, {0, -top - 1}}, 2, 2},
		{[][]int{{1 << 32}}, 1, 1}, {[][]int{{-1 << 32}}, 1, 1}, {[][]int{{math.MaxInt}}, 1, 1}, {[][]int{{math.MinInt}}, 1, 1},
		// Numbers of rows and of columns that no list has.
		{nil, -1, 0}, {nil, -1, -1}, {nil, math.MaxInt, 0}, {nil, math.MinInt, 0}, {[][]int{{1}}, -1, 1}, {[][]int{{1}}, 1, -1}, {[][]int{{1}}, -1, -1},
		{[][]int{{1}}, math.MaxInt, 1}, {[][]int{{1}}, 1, math.MaxInt}, {[][]int{{1}}, math.MinInt, 1}, {[][]int{{1}}, 1, math.MinInt}, {[][]int{{}}, 1, -1}, {[][]int{{}}, 1, math.MinInt},
		{[][]int{{1}}, 1 + 1<<32, 1}, {[][]int{{1}}, 1, 1 + 1<<32}, {[][]int{{}}, 1, 1 << 32}, {nil, 1 << 32, 0},
	} {
		if Right(c.m, c.rows, c.columns) {
			t.Errorf("Right(%v, %d, %d): true", c.m, c.rows, c.columns)
		}
	}
}

// P3.1, Right: no rows are as many as 0, and none of them is wrong, of however
// many numbers.
func TestNoRowsAreRight(t *testing.T) {
	for _, columns := range sizes() {
		if !Right(nil, 0, columns) || !Right([][]int{}, 0, columns) {
			t.Errorf("Right of no rows, 0, %d: false", columns)
		}
	}
}

// P3.1, Apply.
func TestApply(t *testing.T) {
	for _, c := range []struct {
		m       [][]int
		v, want []int
	}{
		{[][]int{{one, 0}, {0, one}}, []int{7, -9}, []int{7, -9}}, // the chapter's example
		{[][]int{{one, 0}, {0, one}}, []int{top, -top}, []int{top, -top}},
		{[][]int{{0, one}, {one, 0}}, []int{7, -9}, []int{-9, 7}}, {[][]int{{2 * one}}, []int{3 * one}, []int{6 * one}}, {[][]int{{0, 0}}, []int{top, top}, []int{0}},
		// More rows than numbers in each, and fewer.
		{[][]int{{one, one}, {-one, 0}, {0, one / 2}}, []int{10, 4}, []int{14, -10, 2}}, {[][]int{{one, 2 * one, 3 * one}}, []int{1, 1, 1}, []int{6}},
		{[][]int{{one}, {-one}, {2 * one}, {one}}, []int{5}, []int{5, -5, 10, 5}},
		// No rows, whatever v is; and a v of no number.
		{nil, nil, nil}, {nil, []int{}, nil}, {[][]int{}, nil, nil}, {[][]int{}, []int{one, math.MinInt}, nil},
		{[][]int{nil}, nil, []int{0}}, {[][]int{{}}, nil, []int{0}}, {[][]int{nil, {}, nil}, []int{}, []int{0, 0, 0}},
		// What is left over is cut off from each product, not from their sum.
		{[][]int{{one / 2, one / 2}, {-one / 2, -one / 2}, {one / 2, -one / 2}}, []int{3, 3}, []int{2, -2, 0}},
		// A sum is held on the way, and does nothing to the row behind.
		{[][]int{{top, top, -top}, {top, -top, top}, {-top, top, top}, {-top, -top, top}, {1, 2, 3}}, []int{one, one, one}, []int{0, top, top, 0, 6}},
		{[][]int{{2 * one, -one}, {-2 * one, one}}, []int{top, one}, []int{top - one, one - top}},
		// Numbers above Top and below -Top, in the rows and in v.
		{[][]int{{top + 1}, {-top - 1}, {1 << 40}, {math.MaxInt}, {math.MinInt}}, []int{one}, []int{top, -top, top, top, -top}},
		{[][]int{{one}, {1}, {-1}, {-one}}, []int{1 << 40}, []int{top, 32767, -32767, -top}}, {[][]int{{one}, {1}, {-1}}, []int{math.MinInt}, []int{-top, -32767, 32767}},
		{[][]int{{math.MaxInt, math.MinInt}, {math.MinInt, math.MinInt}}, []int{one, one}, []int{0, -top}}, {[][]int{{math.MinInt}}, []int{math.MinInt}, []int{top}},
	} {
		if got, ok := Apply(c.m, c.v); !slices.Equal(got, c.want) || !ok {
			t.Errorf("Apply(%v, %v): %v, %t, not %v", c.m, c.v, got, ok, c.want)
		}
	}
}

// P3.1, Apply: nothing is answered if a row, wherever it stands, is not as
// long as v.
func TestApplyUnlike(t *testing.T) {
	v := []int{one, one}
	for _, wrong := range [][]int{nil, {}, {0}, {one}, {one, one, 0}, {one, one, one}, {math.MaxInt}, make([]int, 1000)} {
		for rows := 1; rows <= 5; rows++ {
			for at := range rows {
				m := make([][]int, rows)
				for i := range m {
					m[i] = []int{one, one}
				}
				m[at] = wrong
				if l, ok := Apply(m, v); len(l) != 0 || ok {
					t.Errorf("Apply(%v, %v): %v, %t", m, v, l, ok)
				}
			}
		}
	}
	for _, c := range []struct {
		m [][]int
		v []int
	}{
		{[][]int{{one}}, nil}, {[][]int{{one}}, []int{}}, {[][]int{{}, {one}}, nil}, {[][]int{{one}, {}}, nil}, {[][]int{nil}, []int{one}}, {[][]int{{}, nil}, []int{0}},
		// A v as long as all rows together, or as there are rows.
		{[][]int{{1, 2}, {3, 4}}, []int{one, one, one, one}}, {[][]int{{1, 2, 3}, {4, 5, 6}}, []int{one, one}}, {[][]int{{1}, {2}, {3}}, []int{one, one, one}},
	} {
		if l, ok := Apply(c.m, c.v); len(l) != 0 || ok {
			t.Errorf("Apply(%v, %v): %v, %t", c.m, c.v, l, ok)
		}
	}
}

// P3.1, Right, at each matrix and each pair of sizes, and at the sizes that it
// has.
func TestRightAtAllSizes(t *testing.T) {
	for _, m := range matrices() {
		numbers := append(sizes(), len(m))
		for _, row := range m {
			numbers = append(numbers, len(row))
		}
		for _, rows := range numbers {
			for _, columns := range numbers {
				if got, want := Right(m, rows, columns), wantRight(m, rows, columns); got != want {
					t.Errorf("Right(%v, %d, %d): %t", m, rows, columns, got)
				}
			}
		}
	}
}

// P3.1, Right, at each edge, wherever it stands.
func TestRightAtEdges(t *testing.T) {
	for _, n := range edges() {
		for at := range 6 {
			m := [][]int{{0, 0, 0}, {0, 0, 0}}
			m[at/3][at%3] = n
			if got, want := Right(m, 2, 3), n <= top && n >= -top; got != want {
				t.Errorf("Right(%v, 2, 3): %t", m, got)
			}
		}
	}
}

// check holds Apply against numbers without an end.
func check(t *testing.T, m [][]int, v []int) {
	t.Helper()
	got, ok := Apply(m, v)
	if want, wantOK := wantApply(m, v); !slices.Equal(got, want) || ok != wantOK {
		t.Errorf("Apply(%v, %v): %v, %t, not %v, %t", m, v, got, ok, want, wantOK)
	}
}

// P3.1, Apply, at each matrix and each row.
func TestApplyAgainstBig(t *testing.T) {
	for _, m := range matrices() {
		for _, v := range rows() {
			check(t, m, v)
		}
	}
}

// checkBehind holds Apply of rows put one behind the other against Apply of
// both.
func checkBehind(t *testing.T, a, b [][]int, v []int) {
	t.Helper()
	first, ok1 := Apply(a, v)
	second, ok2 := Apply(b, v)
	var want []int
	if ok1 && ok2 {
		want = append(slices.Clone(first), second...)
	}
	if got, ok := Apply(behind(a, b), v); !slices.Equal(got, want) || ok != (ok1 && ok2) {
		t.Errorf("Apply of %v behind %v, %v: %v, %t, not %v", b, a, v, got, ok, want)
	}
}

// P3.2, at each pair of matrices and each row.
func TestBehind(t *testing.T) {
	for _, a := range matrices() {
		for _, b := range matrices() {
			for _, v := range rows() {
				checkBehind(t, a, b, v)
			}
		}
	}
}

// P3.2: what the rows give stands in their order.
func TestBehindInOrder(t *testing.T) {
	a, b, v := [][]int{{one, 0}, {0, one}}, [][]int{{one, one}}, []int{3, 4}
	for _, c := range []struct {
		m    [][]int
		want []int
	}{
		{behind(a, b), []int{3, 4, 7}}, {behind(b, a), []int{7, 3, 4}}, {behind(a, a), []int{3, 4, 3, 4}}, {behind(a, nil), []int{3, 4}}, {behind(nil, a), []int{3, 4}},
	} {
		if got, ok := Apply(c.m, v); !slices.Equal(got, c.want) || !ok {
			t.Errorf("Apply(%v, %v): %v, %t, not %v", c.m, v, got, ok, c.want)
		}
	}
}

// R1: m and v are afterwards what they were, up to the end of their memory, and
// an answer shares none of it, also where v is one of the rows.
func TestRowsStay(t *testing.T) {
	room := turned(edges())
	all := [][]int{room[:3:6], room[3:6:9], room[:3], {top + 1, one, -one}, {one}}
	m, v := all[:4:5], room[6:9:12]
	was, wasRoom := copied(all), slices.Clone(room)
	calls := []func() []int{
		func() []int { l, _ := Apply(m, v); return l },
		func() []int { l, _ := Apply(m, m[0]); return l },
		func() []int { l, _ := Apply(m[:1], v); return l },
		func() []int { l, _ := Apply(m[:0], v); return l },
		func() []int { l, _ := Apply(m[:3], room[:3]); return l },
		func() []int { l, _ := Apply(all, v); return l },
		func() []int { l, _ := Apply(m, v[:2]); return l },
		func() []int { Right(m, 4, 3); return nil },
		func() []int { Right(all, 5, 3); return nil },
		func() []int { Right(m[:3], 3, 3); return nil },
	}
	for i, call := range calls {
		answer := call()
		answer = answer[:cap(answer)]
		for j := range answer {
			answer[j] = 77
		}
		if !slices.Equal(room, wasRoom) || !slices.EqualFunc(all, was, slices.Equal[[]int]) {
			t.Fatalf("call %d changed what it was handed: %v, %v", i, room, all)
		}
	}
}

// R1, R4: nothing is kept: what was asked ahead does nothing to an answer, nor
// does what m and v become later, and no two answers share memory.
func TestAnswersAreApart(t *testing.T) {
	m, v := [][]int{{one, 0}, {one, one}}, []int{3, 4}
	first, _ := Apply(m, v)
	second, _ := Apply(m, v)
	for j := range second {
		second[j] = 77
	}
	m[0][0], m[1], v[1] = 2*one, []int{0, one}, 5
	if !slices.Equal(first, []int{3, 7}) {
		t.Errorf("what came later changed %v", first)
	}
	for range 2 {
		check(t, m, v)
		check(t, m, v[:1])
		if !Right(m, 2, 2) || Right(m, 2, 1) {
			t.Errorf("Right(%v) hangs on what was asked ahead", m)
		}
	}
}

// P3.1: there may be more rows, and longer ones, than in any model.
func TestManyRows(t *testing.T) {
	m, v := make([][]int, 3000), make([]int, 100)
	for i := range v {
		v[i] = (i - 50) * one
	}
	for i := range m {
		m[i] = make([]int, len(v))
		for j := range m[i] {
			m[i][j] = (i*j)%1000 - 500
		}
	}
	check(t, m, v)
	if !Right(m, len(m), len(v)) || Right(m, len(m)-1, len(v)) {
		t.Error("Right of many rows")
	}
	m[2999] = m[2999][1:]
	check(t, m, v)
	if Right(m, len(m), len(v)) {
		t.Error("Right of many rows, the last too short")
	}
}

func FuzzRowsByARow(f *testing.F) {
	f.Add(one, 0, 0, one, 7, -9)
	f.Add(math.MinInt, math.MaxInt, top, top+1, one, -one)
	f.Fuzz(func(t *testing.T, a, b, c, d, e, g int) {
		m, v := [][]int{{a, b}, {c, d}}, []int{e, g}
		check(t, m, v)
		check(t, append(m, v[:1]), v)
		checkBehind(t, m[:1], m[1:], v)
		checkBehind(t, m, [][]int{v, {a}}, v)
		for _, rows := range []int{2, e} {
			for _, columns := range []int{2, g} {
				if got, want := Right(m, rows, columns), wantRight(m, rows, columns); got != want {
					t.Errorf("Right(%v, %d, %d): %t", m, rows, columns, got)
				}
			}
		}
	})
}
