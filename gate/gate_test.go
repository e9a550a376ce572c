package gate

import (
	"fmt"
	"math"
	"math/big"
	"slices"
	"testing"

	"switchboard/api"
	"switchboard/mat"
	"switchboard/share"
	"switchboard/top"
)

const (
	one  = 65536
	half = 32768
	most = 2147483647
)

// edges are the numbers at which something turns: around 0, One and Top, on
// both sides, and the ends of an int.
func edges() []int {
	return []int{
		0, 1, -1, 2, -2, half, -half, one - 1, 1 - one, one, -one, one + 1, -one - 1, 3 * one, -3 * one,
		most - 1, 1 - most, most, -most, most + 1, -most - 1, 1 << 32, -1 << 32, 1<<32 + 1, 1 << 40, -1 << 40,
		math.MaxInt - 1, math.MinInt + 1, math.MaxInt, math.MinInt,
	}
}

// mixed gives numbers that are always the same ones for a seed.
type mixed uint64

func (m *mixed) next(below int) int {
	*m = *m*6364136223846793005 + 1442695040888963407
	return int(uint64(*m)>>33) % below
}

// number is small, around One, an edge, or anything up to Top.
func (m *mixed) number() int {
	switch m.next(4) {
	case 0:
		return m.next(21) - 10
	case 1:
		return (m.next(9)-4)*one + m.next(5) - 2
	case 2:
		return edges()[m.next(len(edges()))]
	}
	return m.next(most) - m.next(most)
}

func (m *mixed) row(many int) []int {
	l := make([]int, many)
	for i := range l {
		l[i] = m.number()
	}
	return l
}

func (m *mixed) rows(many, long int) [][]int {
	l := make([][]int, many)
	for i := range l {
		l[i] = m.row(long)
	}
	return l
}

// column is rows of one number each: of the token One each number is, held, its
// row's score.
func column(scores ...int) [][]int {
	l := make([][]int, len(scores))
	for i, n := range scores {
		l[i] = []int{n}
	}
	return l
}

// copied shares no memory with rows.
func copied(rows [][]int) [][]int {
	l := slices.Clone(rows)
	for i := range l {
		l[i] = slices.Clone(l[i])
	}
	return l
}

func same(a, b [][]int) bool {
	return slices.EqualFunc(a, b, slices.Equal)
}

// shown keeps what a test says of rows short.
func shown(l any) string {
	return fmt.Sprintf("%.300s", fmt.Sprint(l))
}

// held, and what is wanted by it, take numbers without an end and not the
// layers below, so that nothing wraps round in them.
func held(n *big.Int) *big.Int {
	high, low := big.NewInt(most), big.NewInt(-most)
	if n.Cmp(high) > 0 {
		return high
	}
	if n.Cmp(low) < 0 {
		return low
	}
	return n
}

func wantScore(row, v []int) int {
	sum := new(big.Int)
	for i := range row {
		p := new(big.Int).Mul(held(big.NewInt(int64(row[i]))), held(big.NewInt(int64(v[i]))))
		sum = held(new(big.Int).Add(sum, held(p.Quo(p, big.NewInt(one)))))
	}
	return int(sum.Int64())
}

func wantShares(a, b int) (int, int) {
	x, y := big.NewInt(int64(max(a, 0))), big.NewInt(int64(max(b, 0)))
	x.Add(x, big.NewInt(1))
	y.Add(y, big.NewInt(1))
	first := new(big.Int).Mul(x, big.NewInt(one))
	first.Quo(first, new(big.Int).Add(x, y))
	return int(first.Int64()), one - int(first.Int64())
}

// wantChoose is P13.1; its places are sorted by their scores, those of the same
// score in their order. It counts all rows that are wrong, and does not stop at
// what is first.
func wantChoose(rows [][]int, v []int) (Choice, bool) {
	wrong := 0
	for _, row := range rows {
		if len(row) != len(v) {
			wrong++
		}
	}
	if wrong > 0 || len(rows) == 0 {
		return Choice{}, false
	}
	var scores, places []int
	for i, row := range rows {
		scores, places = append(scores, wantScore(row, v)), append(places, i)
	}
	if len(rows) == 1 {
		return Choice{0, -1, one, 0}, true
	}
	slices.SortStableFunc(places, func(a, b int) int { return scores[b] - scores[a] })
	w1, w2 := wantShares(scores[places[0]], scores[places[1]])
	return Choice{places[0], places[1], w1, w2}, true
}

// check holds one call against the chapter, twice, and what was handed in
// against what it was.
func check(t *testing.T, rows [][]int, v []int) (Choice, bool) {
	t.Helper()
	was, token := copied(rows), slices.Clone(v)
	want, right := wantChoose(rows, v)
	got, ok := Choose(rows, v)
	if got != want || ok != right {
		t.Fatalf("Choose(%s, %s): %+v, %t, not %+v, %t", shown(was), shown(token), got, ok, want, right)
	}
	if again, ok := Choose(rows, v); again != want || ok != right {
		t.Fatalf("Choose(%s, %s), again: %+v, %t, not %+v, %t", shown(was), shown(token), again, ok, want, right)
	}
	if !same(rows, was) || !slices.Equal(v, token) {
		t.Fatalf("Choose(%s, %s): they are now %s, %s", shown(was), shown(token), shown(rows), shown(v))
	}
	if ok {
		checkLayers(t, rows, v, got)
		checkFollows(t, rows, v, got)
	}
	return got, ok
}

// checkLayers is P13.1 by layers 3, 4 and 5.
func checkLayers(t *testing.T, rows [][]int, v []int, c Choice) {
	t.Helper()
	scores, ok := mat.Apply(rows, v)
	first, second := top.Two(scores)
	if !ok || c.First != first || c.Second != second {
		t.Fatalf("Choose(%s, %s): %+v, but of %s Two is %d, %d", shown(rows), shown(v), c, shown(scores), first, second)
	}
	w1, w2 := one, 0
	if len(rows) > 1 {
		w1, w2 = share.Shares(scores[first], scores[second])
	}
	if c.W1 != w1 || c.W2 != w2 {
		t.Fatalf("Choose(%s, %s): %+v, but of %s the shares are %d, %d", shown(rows), shown(v), c, shown(scores), w1, w2)
	}
}

// checkFollows is P13.2, told by the rows' scores and the choice alone.
func checkFollows(t *testing.T, rows [][]int, v []int, c Choice) {
	t.Helper()
	if c.W1+c.W2 != one || c.W1 < 0 || c.W2 < 0 || c.W1 < c.W2 {
		t.Fatalf("Choose(%s, %s): %+v: shares below 0, not One together, or the first one's less", shown(rows), shown(v), c)
	}
	if c.First < 0 || c.First >= len(rows) || c.First == c.Second {
		t.Fatalf("Choose(%s, %s): %+v: First is no place of its own", shown(rows), shown(v), c)
	}
	if (c.Second == -1) != (len(rows) == 1) || c.Second < -1 || c.Second >= len(rows) {
		t.Fatalf("Choose(%s, %s): %+v: Second is no place, of %d rows", shown(rows), shown(v), c, len(rows))
	}
	for i, row := range rows {
		first, other := wantScore(rows[c.First], v), wantScore(row, v)
		if first < other || first == other && i < c.First {
			t.Fatalf("Choose(%s, %s): %+v: of First's score %d, but at %d there is %d", shown(rows), shown(v), c, first, i, other)
		}
		if i == c.First || c.Second < 0 {
			continue
		}
		second := wantScore(rows[c.Second], v)
		if second < other || second == other && i < c.Second {
			t.Fatalf("Choose(%s, %s): %+v: of Second's score %d, but at %d there is %d", shown(rows), shown(v), c, second, i, other)
		}
	}
}

// tokens are of no number, one and many.
func tokens() [][]int {
	l := [][]int{nil, {}, {0}, {one}, {-one}, {1, 2}, {math.MinInt, math.MaxInt, 0}, make([]int, 8), make([]int, 1000)}
	for long := range 10 {
		m := mixed(long)
		l = append(l, m.row(long), m.row(long))
	}
	return l
}

// P13.1: the chapter's example, and the limits.
func TestExample(t *testing.T) {
	c, ok := Choose([][]int{{one}, {2 * one}}, []int{one})
	if !ok || c != (Choice{First: 1, Second: 0, W1: 43690, W2: 21846}) {
		t.Errorf("Choose: %+v, %t", c, ok)
	}
	if api.One != one || api.Top != most {
		t.Errorf("the limits: %d, %d", api.One, api.Top)
	}
}

// P13.1: no row is nothing, whatever the token is.
func TestNoRow(t *testing.T) {
	for _, v := range tokens() {
		for _, rows := range [][][]int{nil, {}, make([][]int, 0, 4), column(1, 2)[:0]} {
			if c, ok := Choose(rows, v); c != (Choice{}) || ok {
				t.Errorf("Choose of no row, %s: %+v, %t", shown(v), c, ok)
			}
			check(t, rows, v)
		}
	}
}

// lengths changes how long one row is: by one, to none, to very long.
func lengths(row []int) [][]int {
	l := [][]int{append(slices.Clone(row), 0), append(slices.Clone(row), row...), nil, {}, make([]int, 1000)}
	if len(row) > 0 {
		l = append(l, row[:len(row)-1], row[1:])
	}
	return slices.DeleteFunc(l, func(other []int) bool { return len(other) == len(row) })
}

// P13.1: nothing, if one row alone, wherever it stands, is not as long as v.
func TestUnlikeRow(t *testing.T) {
	for long := range 9 {
		for many := 1; many <= 9; many++ {
			m := mixed(long + 10*many)
			rows, v := m.rows(many, long), m.row(long)
			for at := range many {
				for _, wrong := range lengths(rows[at]) {
					l := slices.Clone(rows)
					l[at] = wrong
					if c, ok := Choose(l, v); c != (Choice{}) || ok {
						t.Fatalf("Choose(%s, %v), the row %d of %d numbers: %+v, %t", shown(l), v, at, len(wrong), c, ok)
					}
					check(t, l, v)
				}
			}
			check(t, rows, v)
		}
	}
}

// P13.1: nothing, if the token is not as long as the rows, that are all alike;
// also where it is as long as there are rows, or as all rows together.
func TestUnlikeToken(t *testing.T) {
	for _, c := range []struct {
		rows [][]int
		v    []int
	}{
		{column(one), nil}, {column(one), []int{}}, {column(one), []int{one, one}}, {[][]int{nil}, []int{one}}, {[][]int{{}}, []int{0}}, {[][]int{{}, nil}, []int{0, 0}},
		{column(1, 2, 3), []int{one, one, one}}, {column(1, 2), nil}, {[][]int{{1, 2, 3}}, []int{one}}, {[][]int{{1, 2}, {3, 4}}, []int{one, one, one, one}}, {[][]int{{1, 2}, {3, 4}}, []int{one}},
		{[][]int{{5, 6}}, []int{1}}, {make([][]int, 1000), []int{one}}, {[][]int{{1, 2, 3}, {1, 2, 3}}, []int{one, one}},
		// Rows that are unlike each other, so that no token fits.
		{[][]int{{}, {1}}, nil}, {[][]int{{}, {1}}, []int{one}}, {[][]int{{1}, {}}, nil}, {[][]int{{1}, {}}, []int{one}}, {[][]int{{1}, {1, 2}, {1, 2, 3}}, []int{one, one}},
	} {
		if got, ok := Choose(c.rows, c.v); got != (Choice{}) || ok {
			t.Errorf("Choose(%s, %v): %+v, %t", shown(c.rows), c.v, got, ok)
		}
		check(t, c.rows, c.v)
	}
}

// P13.1: rows of no number, and a token of none: each row's score is 0.
func TestRowsOfNoNumber(t *testing.T) {
	for _, v := range [][]int{nil, {}, make([]int, 0, 3)} {
		for _, c := range []struct {
			rows [][]int
			want Choice
		}{
			{[][]int{nil}, Choice{0, -1, one, 0}}, {[][]int{{}}, Choice{0, -1, one, 0}}, {[][]int{nil, nil}, Choice{0, 1, half, half}}, {[][]int{{}, {}}, Choice{0, 1, half, half}},
			{[][]int{nil, {}, nil}, Choice{0, 1, half, half}}, {[][]int{{}, nil, {}, nil}, Choice{0, 1, half, half}}, {make([][]int, 1000), Choice{0, 1, half, half}},
		} {
			if got, ok := Choose(c.rows, v); got != c.want || !ok {
				t.Errorf("Choose(%s, %v): %+v, %t, not %+v", shown(c.rows), v, got, ok, c.want)
			}
			check(t, c.rows, v)
		}
	}
}

// P13.1: one row alone has all of One, whatever its score is.
func TestOneRow(t *testing.T) {
	want := Choice{First: 0, Second: -1, W1: one, W2: 0}
	alone := func(row, v []int) {
		if got, ok := Choose([][]int{row}, v); got != want || !ok {
			t.Errorf("Choose(%v, %v): %+v, %t", row, v, got, ok)
		}
		check(t, [][]int{row}, v)
	}
	for _, a := range edges() {
		for _, b := range edges() {
			alone([]int{a}, []int{b})
			alone([]int{a, b}, []int{one, one})
			alone([]int{a, b, a}, []int{b, a, -one})
		}
	}
	// Above 0, 0, below 0, at Top and at its opposite, and 5 and 1, whose
	// product is cut off to 0.
	for _, n := range []int{7 * one, 1, 0, -1, -7 * one, most, -most, math.MaxInt, math.MinInt} {
		alone([]int{n}, []int{one})
	}
	alone([]int{5}, []int{1})
	for _, v := range tokens() {
		alone(make([]int, len(v)), v)
		alone(v, v)
	}
}

// P13.1: what is chosen of which scores, written out.
func TestChooseWrittenOut(t *testing.T) {
	for _, c := range []struct {
		scores []int
		want   Choice
	}{
		// Two rows: the greater one first, whichever place it has. 1 more counts.
		{[]int{2, 0}, Choice{0, 1, 49152, 16384}}, {[]int{0, 2}, Choice{1, 0, 49152, 16384}}, {[]int{6, 0}, Choice{0, 1, 57344, 8192}}, {[]int{0, 6}, Choice{1, 0, 57344, 8192}},
		{[]int{5, 1}, Choice{0, 1, 49152, 16384}}, {[]int{1, 5}, Choice{1, 0, 49152, 16384}}, {[]int{1, 0}, Choice{0, 1, 43690, 21846}}, {[]int{0, 1}, Choice{1, 0, 43690, 21846}},
		{[]int{one, 2 * one}, Choice{1, 0, 43690, 21846}}, {[]int{2 * one, one}, Choice{0, 1, 43690, 21846}}, {[]int{one, 0}, Choice{0, 1, 65535, 1}}, {[]int{0, one}, Choice{1, 0, 65535, 1}},
		// The same scores: the first place first.
		{[]int{0, 0}, Choice{0, 1, half, half}}, {[]int{5, 5}, Choice{0, 1, half, half}}, {[]int{-5, -5}, Choice{0, 1, half, half}}, {[]int{most, most}, Choice{0, 1, half, half}},
		{[]int{4, 4, 4}, Choice{0, 1, half, half}}, {[]int{-4, -4, -4, -4}, Choice{0, 1, half, half}}, {[]int{0, 0, 0, 0, 0}, Choice{0, 1, half, half}},
		// Two of them the same: the greatest, and the second.
		{[]int{9, 9, 5}, Choice{0, 1, half, half}}, {[]int{9, 5, 9}, Choice{0, 2, half, half}}, {[]int{5, 9, 9}, Choice{1, 2, half, half}}, {[]int{1, 9, 5, 9, 9}, Choice{1, 3, half, half}},
		{[]int{2, 2, 8}, Choice{2, 0, 49152, 16384}}, {[]int{2, 8, 2}, Choice{1, 0, 49152, 16384}}, {[]int{8, 2, 2}, Choice{0, 1, 49152, 16384}}, {[]int{1, 2, 8, 2, 2}, Choice{2, 1, 49152, 16384}},
		// The greatest at the first place, in between, and at the last one.
		{[]int{8, 2, 1}, Choice{0, 1, 49152, 16384}}, {[]int{8, 1, 2}, Choice{0, 2, 49152, 16384}}, {[]int{2, 8, 1}, Choice{1, 0, 49152, 16384}},
		{[]int{1, 8, 2}, Choice{1, 2, 49152, 16384}}, {[]int{2, 1, 8}, Choice{2, 0, 49152, 16384}}, {[]int{1, 2, 8}, Choice{2, 1, 49152, 16384}},
		{[]int{3, 1, 4, 1, 5, 23, 2, 7}, Choice{5, 7, 49152, 16384}}, {[]int{7, 1, 4, 1, 5, 2, 6, 23}, Choice{7, 0, 49152, 16384}}, {[]int{23, 1, 4, 1, 5, 2, 6, 7}, Choice{0, 7, 49152, 16384}},
		// Below 0: by the scores they are unlike, by their shares not.
		{[]int{-1, -2}, Choice{0, 1, half, half}}, {[]int{-2, -1}, Choice{1, 0, half, half}}, {[]int{-9, -5, -1}, Choice{2, 1, half, half}}, {[]int{-5, -9, -1}, Choice{2, 0, half, half}},
		{[]int{-1, 0}, Choice{1, 0, half, half}}, {[]int{0, -1}, Choice{0, 1, half, half}}, {[]int{-7, 2}, Choice{1, 0, 49152, 16384}}, {[]int{2, -7}, Choice{0, 1, 49152, 16384}},
		{[]int{-3, 2, -1}, Choice{1, 2, 49152, 16384}}, {[]int{-1, -one, 6, -2}, Choice{2, 0, 57344, 8192}}, {[]int{-most, 1 - most}, Choice{1, 0, half, half}},
		// At Top, and beyond, where all are held to the same score.
		{[]int{most, 0}, Choice{0, 1, 65535, 1}}, {[]int{0, most}, Choice{1, 0, 65535, 1}}, {[]int{most - 1, most}, Choice{1, 0, half, half}}, {[]int{most, 1<<30 - 1}, Choice{0, 1, 43690, 21846}},
		{[]int{most, most + 1}, Choice{0, 1, half, half}}, {[]int{most, math.MaxInt}, Choice{0, 1, half, half}}, {[]int{1 << 40, 1 << 50, 1 << 60}, Choice{0, 1, half, half}},
		{[]int{5, math.MaxInt, most + 1}, Choice{1, 2, half, half}}, {[]int{-most, math.MinInt}, Choice{0, 1, half, half}}, {[]int{math.MinInt, -most}, Choice{0, 1, half, half}},
		{[]int{math.MinInt, -most - 1, 2, 0}, Choice{2, 3, 49152, 16384}}, {[]int{math.MinInt, math.MaxInt}, Choice{1, 0, 65535, 1}}, {[]int{math.MaxInt, math.MinInt}, Choice{0, 1, 65535, 1}},
		{[]int{1<<30 - 1, math.MinInt, math.MaxInt}, Choice{2, 0, 43690, 21846}},
	} {
		if got, ok := Choose(column(c.scores...), []int{one}); got != c.want || !ok {
			t.Errorf("Choose of the scores %v: %+v, %t, not %+v", c.scores, got, ok, c.want)
		}
		check(t, column(c.scores...), []int{one})
	}
}

// P13.1: scores are what Apply makes of rows and token: by the token's numbers,
// cut off, held on the way; not what stands in the rows.
func TestScoresWrittenOut(t *testing.T) {
	for _, c := range []struct {
		rows [][]int
		v    []int
		want Choice
	}{
		// The token turns which one is the greater.
		{[][]int{{one, 0}, {0, one}}, []int{2, 0}, Choice{0, 1, 49152, 16384}}, {[][]int{{one, 0}, {0, one}}, []int{0, 2}, Choice{1, 0, 49152, 16384}},
		{column(-2*one, -one), []int{-1}, Choice{0, 1, 39321, 26215}}, {column(one, 2*one, 3*one), []int{0}, Choice{0, 1, half, half}}, {column(3*one, one, 2*one), []int{-1}, Choice{1, 2, half, half}},
		{[][]int{{one, -one}, {-one, one}, {one, one}}, []int{-1, 1}, Choice{1, 2, 49152, 16384}}, {[][]int{{0}, {one}, {one}}, []int{2}, Choice{1, 2, half, half}},
		// What is left over is cut off from each product: 2 and 3, not 3 and 3.
		{[][]int{{half, half}, {one, 0}}, []int{3, 3}, Choice{1, 0, 37449, 28087}}, {column(half, half-1, half+1), []int{1}, Choice{0, 1, half, half}}, {column(-half, 0), []int{1}, Choice{0, 1, half, half}},
		// A sum is held on the way, so that the order of a row's numbers counts.
		{[][]int{{most, most, -most}, {most, -most, most}}, []int{one, one, one}, Choice{1, 0, 65535, 1}},
		{[][]int{{-most, -most, most}, {most, -most, 2}, {0, 0, 0}}, []int{one, one, one}, Choice{1, 0, 49152, 16384}},
		// Numbers of the token beyond Top.
		{column(one, 1, -1, -one), []int{math.MaxInt}, Choice{0, 1, 65535, 1}}, {column(one, 1, -1, -one), []int{math.MinInt}, Choice{3, 2, 65535, 1}}, {column(1, one, 2*one), []int{1 << 40}, Choice{1, 2, half, half}},
		{column(math.MinInt, math.MaxInt), []int{math.MinInt}, Choice{0, 1, 65535, 1}}, {column(math.MinInt, math.MaxInt), []int{math.MaxInt}, Choice{1, 0, 65535, 1}},
		{[][]int{{math.MaxInt, math.MinInt}, {math.MinInt, math.MaxInt}, {0, 3}}, []int{one, one}, Choice{2, 0, 52428, 13108}},
	} {
		if got, ok := Choose(c.rows, c.v); got != c.want || !ok {
			t.Errorf("Choose(%v, %v): %+v, %t, not %+v", c.rows, c.v, got, ok, c.want)
		}
		check(t, c.rows, c.v)
	}
}

// everyRow hands to visit each row of so many of the numbers.
func everyRow(numbers []int, length int, visit func(row []int)) {
	row := make([]int, length)
	var fill func(at int)
	fill = func(at int) {
		if at == length {
			visit(row)
			return
		}
		for _, n := range numbers {
			row[at] = n
			fill(at + 1)
		}
	}
	fill(0)
}

// P13.1, P13.2: all scores of up to five rows out of few, so that every order,
// and every way in which scores can be the same, is among them.
func TestAllFewScores(t *testing.T) {
	for many := range 6 {
		for _, few := range [][]int{{-1, 0, 1, 7}, {-most, -one, most}, {math.MinInt, 2, math.MaxInt}} {
			everyRow(few, many, func(scores []int) { check(t, column(scores...), []int{one}) })
		}
	}
}

// P13.1, P13.2: each edge beside each other one, in the rows and in the token.
func TestEdges(t *testing.T) {
	for _, a := range edges() {
		for _, b := range edges() {
			for _, v := range edges() {
				check(t, column(a, b), []int{v})
			}
			check(t, [][]int{{a, b}, {b, a}, {a, a}, {b, b}}, []int{one, -half})
			check(t, [][]int{{one, 1}, {-one, 1}, {1, -one}, {half, half}}, []int{a, b})
			check(t, column(0, a, b, a, one), []int{one})
		}
	}
	check(t, column(edges()...), []int{one})
	check(t, column(edges()...), []int{-one})
	check(t, [][]int{edges(), edges()}, edges())
}

// P13.1, P13.2: the greatest score, and the second one, at each place of many
// rows, alone and with others that are the same.
func TestEachPlace(t *testing.T) {
	const many = 12
	for _, least := range []int{-7, 0, -most, most - 2} {
		for first := range many {
			for second := range many {
				scores := slices.Repeat([]int{least}, many)
				scores[second] = least + 1
				scores[first] = least + 2
				c, _ := check(t, column(scores...), []int{one})
				if c.First != first || second != first && c.Second != second {
					t.Errorf("Choose, the greatest at %d and %d: %+v", first, second, c)
				}
				scores[second] = least + 2
				c, _ = check(t, column(scores...), []int{one})
				if second != first && (c.First != min(first, second) || c.Second != max(first, second)) {
					t.Errorf("Choose, the greatest both at %d and %d: %+v", first, second, c)
				}
			}
		}
	}
}

// P13.1, P13.2: mixed rows and tokens, of all sizes that a model may have, and
// somewhat beyond.
func TestMixed(t *testing.T) {
	for many := range 11 {
		for long := range 11 {
			m := mixed(many + 100*long)
			for range 20 {
				check(t, m.rows(many, long), m.row(long))
			}
		}
	}
}

// P13.1, P1: more rows, and longer ones, than any model has.
func TestManyRows(t *testing.T) {
	m := mixed(13)
	for _, size := range []struct{ many, long int }{{100, 1}, {1000, 3}, {2, 1000}, {100, 100}, {3000, 0}} {
		check(t, m.rows(size.many, size.long), m.row(size.long))
	}
}

// R1, R4: what is handed in stays as it is, up to the end of its memory, and
// what stands there behind the last row and the last number counts not.
func TestRowsStay(t *testing.T) {
	for many := range 6 {
		for long := range 6 {
			for _, room := range []int{0, 1, 2, 9} {
				m := mixed(many + 10*long + 100*room)
				rows, v := m.rows(many, long), m.row(long)
				var wide [][]int
				for _, row := range rows {
					wide = append(wide, slices.Concat(row, slices.Repeat([]int{most}, room)))
				}
				for range room {
					wide = append(wide, slices.Repeat([]int{most}, long+room))
				}
				memory := make([][]int, len(wide))
				for i, row := range wide {
					memory[i] = row[:long]
				}
				token := slices.Concat(v, slices.Repeat([]int{most}, room))
				was, all := copied(wide), copied(memory)
				c, ok := check(t, memory[:many], token[:long])
				if want, right := check(t, rows, v); c != want || ok != right {
					t.Errorf("Choose with room for %d: %+v, %t, without: %+v, %t", room, c, ok, want, right)
				}
				if !same(wide, was) || !same(memory, all) || !slices.Equal(token, slices.Concat(v, slices.Repeat([]int{most}, room))) {
					t.Fatalf("Choose of %d rows of %d, with room for %d: what was handed in is changed", many, long, room)
				}
			}
		}
	}
}

// R1: rows that are one memory with each other, and with the token.
func TestSharedMemory(t *testing.T) {
	memory := []int{one, 2 * one, -one, 3 * one, half}
	was := slices.Clone(memory)
	check(t, [][]int{memory, memory, memory}, memory)
	check(t, [][]int{memory[:3], memory[1:4], memory[2:]}, memory[1:4])
	check(t, [][]int{memory[2:4], memory[:2], memory[3:]}, memory[:2])
	check(t, [][]int{memory[:0], memory[5:]}, memory[2:2])
	if !slices.Equal(memory, was) {
		t.Errorf("the calls changed what they were handed: %v", memory)
	}
}

// R1, R4: nothing is kept: an answer hangs on what rows and token are now, and
// not on what they were or on what else was asked.
func TestNothingIsKept(t *testing.T) {
	rows, v := column(1, 2, 3), []int{one}
	for range 3 {
		check(t, rows, v)
		rows[0][0] += 7
		check(t, rows, v)
		rows[2] = []int{math.MinInt}
		check(t, rows, v)
		v[0] = -v[0]
		check(t, rows, v)
		check(t, nil, v)
		check(t, rows, nil)
		check(t, rows[:1], v)
	}
}

// R5: a list that is nil and one that is empty are the same, as rows, as a row
// and as a token.
func TestNilAndEmpty(t *testing.T) {
	empty := [][]int{nil, {}, make([]int, 0, 3)}
	for _, v := range empty {
		for _, a := range empty {
			for _, b := range empty {
				if c, ok := check(t, [][]int{a, b}, v); c != (Choice{0, 1, half, half}) || !ok {
					t.Errorf("Choose of rows of none: %+v, %t", c, ok)
				}
				check(t, [][]int{a, b}, []int{0})
				check(t, [][]int{a, b, {0}}, v)
			}
		}
	}
}

func FuzzChoose(f *testing.F) {
	f.Add(one, 2*one, 0, one, uint8(2), uint8(1), uint8(255))
	f.Add(math.MinInt, math.MaxInt, most, -most, uint8(8), uint8(3), uint8(255))
	f.Add(0, 1, -1, 5, uint8(3), uint8(2), uint8(1))
	f.Fuzz(func(t *testing.T, a, b, c, d int, many, long, wrong uint8) {
		numbers := []int{a, b, c, d, a ^ b, c - d, int(int32(a)), int(int32(b)), int(int16(c)), int(int8(d))}
		m := mixed(a + 3*b + 5*c + 7*d)
		pick := func(many int) []int {
			row := make([]int, many)
			for i := range row {
				row[i] = numbers[m.next(len(numbers))]
			}
			return row
		}
		rows, v := make([][]int, many%12), pick(int(long%10))
		for i := range rows {
			rows[i] = pick(len(v))
		}
		check(t, rows, v)
		if int(wrong) < len(rows) {
			rows[wrong] = append(rows[wrong], d)
			check(t, rows, v)
		}
	})
}
