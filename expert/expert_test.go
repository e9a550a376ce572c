package expert

import (
	"fmt"
	"math"
	"math/big"
	"slices"
	"testing"

	"switchboard/api"
	"switchboard/mat"
	"switchboard/vec"
)

const (
	one = 65536
	top = 2147483647
)

// edges are the numbers that may stand in a right expert and at which something
// turns: around 0, One and Top, on both sides.
func edges() []int {
	return []int{0, 1, -1, one / 2, -one / 2, one - 1, 1 - one, one, -one, one + 1, -one - 1, 3 * one, -3 * one, top - 1, 1 - top, top, -top}
}

// beyond are those that may not.
func beyond() []int {
	return []int{
		top + 1, -top - 1, top + 2, -top - 2, 1 << 32, -1 << 32, 1<<32 + 1, 1 << 40, -1 << 40,
		math.MaxInt - 1, math.MinInt + 1, math.MaxInt, math.MinInt,
	}
}

// dims are numbers that a token may have and numbers that it may not.
func dims() []int {
	return []int{
		0, 1, 2, 3, 4, 5, 6, 7, 8, 9, 10, 16, 64, 1000, -1, -2, -8, -9, top, top + 1, -top, 1 << 32, 1<<32 + 1, 1<<32 + 8, -1 << 32, -1<<32 + 1,
		math.MaxInt, math.MaxInt - 1, math.MinInt, math.MinInt + 1, math.MinInt + 8,
	}
}

// mixed gives numbers that are always the same ones for a seed.
type mixed uint64

func (m *mixed) next(below int) int {
	*m = *m*6364136223846793005 + 1442695040888963407
	return int(uint64(*m)>>33) % below
}

// number is small, around One, an edge, or anything up to Top.
func (m *mixed) number() int {
	switch m.next(4) {
	case 0:
		return m.next(21) - 10
	case 1:
		return (m.next(9)-4)*one + m.next(5) - 2
	case 2:
		return edges()[m.next(len(edges()))]
	}
	return m.next(top) - m.next(top)
}

func (m *mixed) row(many int) []int {
	l := make([]int, many)
	for i := range l {
		l[i] = m.number()
	}
	return l
}

func (m *mixed) rows(many, long int) [][]int {
	l := make([][]int, many)
	for i := range l {
		l[i] = m.row(long)
	}
	return l
}

// made is an expert of so many numbers a token and so many rows of In.
func made(seed, dim, inner int) api.Expert {
	m := mixed(seed)
	return api.Expert{In: m.rows(inner, dim), Out: m.rows(dim, inner)}
}

// alike is an expert with one number at all places.
func alike(n, dim, inner int) api.Expert {
	x := made(0, dim, inner)
	for _, row := range slices.Concat(x.In, x.Out) {
		for i := range row {
			row[i] = n
		}
	}
	return x
}

func copied(x api.Expert) api.Expert {
	rows := func(m [][]int) [][]int {
		l := slices.Clone(m)
		for i := range l {
			l[i] = slices.Clone(l[i])
		}
		return l
	}
	return api.Expert{In: rows(x.In), Out: rows(x.Out)}
}

func same(x, y api.Expert) bool {
	return slices.EqualFunc(x.In, y.In, slices.Equal) && slices.EqualFunc(x.Out, y.Out, slices.Equal)
}

// shown keeps what a test says of an expert short.
func shown(x api.Expert) string {
	if len(x.In)+len(x.Out) <= 6 {
		return fmt.Sprintf("%.200s", fmt.Sprint(x))
	}
	long := func(m [][]int) []int {
		var l []int
		for _, row := range m[:min(len(m), 10)] {
			l = append(l, len(row))
		}
		return l
	}
	return fmt.Sprintf("{In %d rows, of %v, Out %d rows, of %v}", len(x.In), long(x.In), len(x.Out), long(x.Out))
}

// places are the first one, some in between and the last of so many.
func places(many int) []int {
	return slices.Compact(slices.Sorted(slices.Values([]int{0, many / 2, many - 1})))
}

// lengths changes how long one row is: by one, to none, to very long.
func lengths(row []int) [][]int {
	return [][]int{row[:len(row)-1], append(slices.Clone(row), 0), append(slices.Clone(row), row...), nil, {}, make([]int, 1000)}
}

// spoiled is m with one row that is not as long as it was, or with a number
// beyond Top in it.
func spoiled(m [][]int) map[string][][]int {
	all := map[string][][]int{}
	for _, at := range places(len(m)) {
		for i, row := range lengths(m[at]) {
			l := slices.Clone(m)
			l[at] = row
			all[fmt.Sprintf("length %d of the row %d", i, at)] = l
		}
		for _, n := range beyond() {
			for _, k := range places(len(m[at])) {
				l := slices.Clone(m)
				l[at] = slices.Clone(m[at])
				l[at][k] = n
				all[fmt.Sprintf("%d in the row %d, at %d", n, at, k)] = l
			}
		}
	}
	return all
}

// wrongIn is what can be wrong with In, of an expert like x that is else right:
// how many rows there are (Out is then of rows as long as that), how long they
// are, what stands in them.
func wrongIn(x api.Expert) map[string]api.Expert {
	dim, inner := len(x.Out), len(x.In)
	all := map[string]api.Expert{
		"In nil, Out of rows of none":   {Out: make([][]int, dim)},
		"In empty, Out of rows of none": {In: [][]int{}, Out: made(1, dim, 0).Out},
		"In nil":                        {Out: x.Out},
		"In empty":                      {In: [][]int{}, Out: x.Out},
	}
	for _, many := range []int{9, 10, 16, 100} {
		all[fmt.Sprintf("In of %d rows", many)] = made(many, dim, many)
	}
	for _, by := range []int{-1, 1, 2} {
		all[fmt.Sprintf("all rows of In longer by %d", by)] = api.Expert{In: made(1, dim+by, inner).In, Out: x.Out}
	}
	for what, in := range spoiled(x.In) {
		all["In, "+what] = api.Expert{In: in, Out: x.Out}
	}
	return all
}

// wrongOut is what can be wrong with Out, while In is right.
func wrongOut(x api.Expert) map[string]api.Expert {
	dim, inner := len(x.Out), len(x.In)
	all := map[string]api.Expert{
		"Out nil":   {In: x.In},
		"Out empty": {In: x.In, Out: [][]int{}},
	}
	for _, many := range []int{dim - 1, dim + 1, dim + 8, 100} {
		all[fmt.Sprintf("Out of %d rows", many)] = api.Expert{In: x.In, Out: made(1, many, inner).Out}
	}
	for _, by := range []int{-1, 1, 2} {
		all[fmt.Sprintf("all rows of Out longer by %d", by)] = api.Expert{In: x.In, Out: made(1, dim, inner+by).Out}
	}
	for what, out := range spoiled(x.Out) {
		all["Out, "+what] = api.Expert{In: x.In, Out: out}
	}
	if dim != inner {
		all["Out by columns"] = api.Expert{In: x.In, Out: made(1, inner, dim).Out}
	}
	return all
}

// eachWrong hands to visit what is wrong for dim numbers, in each way, of
// experts of all sizes: In alone, Out alone, and both.
func eachWrong(visit func(what string, x api.Expert, dim int)) {
	for dim := 1; dim <= 8; dim++ {
		for inner := 1; inner <= 8; inner++ {
			x := made(dim+10*inner, dim, inner)
			in, out := wrongIn(x), wrongOut(x)
			for what, y := range in {
				visit(what, y, dim)
			}
			for what, y := range out {
				visit(what, y, dim)
				visit(what+", In of none", api.Expert{Out: y.Out}, dim)
				visit(what+", In of 9 rows", api.Expert{In: made(3, dim, 9).In, Out: y.Out}, dim)
				visit(what+", In too long", api.Expert{In: made(3, dim+1, inner).In, Out: y.Out}, dim)
			}
			if dim != inner {
				visit("In and Out in each other's place", api.Expert{In: x.Out, Out: x.In}, dim)
			}
		}
	}
	for _, dim := range dims() {
		visit("nothing", api.Expert{}, dim)
		visit("empty", api.Expert{In: [][]int{}, Out: [][]int{}}, dim)
		visit("rows of none", api.Expert{In: [][]int{{}}, Out: [][]int{{}}}, dim)
		visit("rows that are nil", api.Expert{In: [][]int{nil, nil}, Out: [][]int{nil, nil}}, dim)
	}
}

// wantRight is P11.1, without the layers below; it counts all that is wrong, and
// does not stop at what is first.
func wantRight(x api.Expert, dim int) bool {
	wrong := 0
	count := func(isWrong bool) {
		if isWrong {
			wrong++
		}
	}
	rows := func(m [][]int, long int) {
		for _, row := range m {
			count(len(row) != long)
			for _, n := range row {
				count(n > top || n < -top)
			}
		}
	}
	count(dim < 1 || dim > 8)
	count(len(x.In) < 1 || len(x.In) > 8)
	rows(x.In, dim)
	count(len(x.Out) != dim)
	rows(x.Out, len(x.In))
	return wrong == 0
}

// held, and what is wanted by it, take numbers without an end and not the
// layers below, so that nothing wraps round in them.
func held(n *big.Int) *big.Int {
	high, low := big.NewInt(top), big.NewInt(-top)
	if n.Cmp(high) > 0 {
		return high
	}
	if n.Cmp(low) < 0 {
		return low
	}
	return n
}

func applied(m [][]int, v []*big.Int) []*big.Int {
	var l []*big.Int
	for _, row := range m {
		sum := new(big.Int)
		for i, n := range row {
			p := new(big.Int).Mul(held(big.NewInt(int64(n))), held(v[i]))
			sum = held(new(big.Int).Add(sum, held(p.Quo(p, big.NewInt(one)))))
		}
		l = append(l, sum)
	}
	return l
}

func wantRun(x api.Expert, v []int) ([]int, bool) {
	if !wantRight(x, len(v)) {
		return nil, false
	}
	var token []*big.Int
	for _, n := range v {
		token = append(token, big.NewInt(int64(n)))
	}
	inner := applied(x.In, token)
	for i, n := range inner {
		if n.Sign() < 0 {
			inner[i] = new(big.Int)
		}
	}
	var l []int
	for _, n := range applied(x.Out, inner) {
		l = append(l, int(n.Int64()))
	}
	return l, true
}

// byHand is P11.1 by layers 2 and 3, for an expert that is right.
func byHand(x api.Expert, v []int) []int {
	inner, _ := mat.Apply(x.In, v)
	l, _ := mat.Apply(x.Out, vec.Relu(inner))
	return l
}

// checkRight and checkRun hold one call against the chapter, twice, and what was
// handed in against what it was.
func checkRight(t *testing.T, x api.Expert, dim int) bool {
	t.Helper()
	was, want := copied(x), wantRight(x, dim)
	for range 2 {
		if got := Right(x, dim); got != want {
			t.Fatalf("Right(%s, %d): %t", shown(was), dim, got)
		}
	}
	if !same(x, was) {
		t.Fatalf("Right(%s, %d): x is now %s", shown(was), dim, shown(x))
	}
	return want
}

func checkRun(t *testing.T, x api.Expert, v []int) ([]int, bool) {
	t.Helper()
	was, token := copied(x), slices.Clone(v)
	want, right := wantRun(x, v)
	got, ok := Run(x, v)
	if !slices.Equal(got, want) || ok != right {
		t.Fatalf("Run(%s, %v): %v, %t, not %v, %t", shown(was), token, got, ok, want, right)
	}
	if again, ok := Run(x, v); !slices.Equal(again, want) || ok != right {
		t.Fatalf("Run(%s, %v), again: %v, %t, not %v, %t", shown(was), token, again, ok, want, right)
	}
	if !same(x, was) || !slices.Equal(v, token) {
		t.Fatalf("Run(%s, %v): they are now %s, %v", shown(was), token, shown(x), v)
	}
	return got, ok
}

// tokens are of so many numbers: noughts, each edge at all places and at one,
// numbers beyond Top, and mixed ones.
func tokens(dim int) [][]int {
	all := [][]int{make([]int, dim)}
	for i, n := range slices.Concat(edges(), beyond()) {
		at, everywhere := make([]int, dim), make([]int, dim)
		at[i%dim] = n
		for k := range everywhere {
			everywhere[k] = n
		}
		all = append(all, at, everywhere)
	}
	m := mixed(dim)
	for range 8 {
		all = append(all, m.row(dim))
	}
	return all
}

// P11.1: the chapter's example, and the limits.
func TestExample(t *testing.T) {
	x := api.Expert{In: [][]int{{one}}, Out: [][]int{{2 * one}}}
	if l, ok := Run(x, []int{3 * one}); !ok || !slices.Equal(l, []int{6 * one}) {
		t.Errorf("of 3 One: %v, %t", l, ok)
	}
	if l, ok := Run(x, []int{-3 * one}); !ok || !slices.Equal(l, []int{0}) {
		t.Errorf("of -3 One: %v, %t", l, ok)
	}
	if !Right(x, 1) {
		t.Error("the example is not right")
	}
	if api.MaxDim != 8 || api.Top != top || api.One != one {
		t.Errorf("the limits: %d, %d, %d", api.MaxDim, api.Top, api.One)
	}
}

// P11.1, Right: what is right, written out.
func TestRightWrittenOut(t *testing.T) {
	for _, c := range []struct {
		in, out [][]int
		dim     int
	}{
		{[][]int{{one}}, [][]int{{one}}, 1},
		{[][]int{{0}}, [][]int{{0}}, 1},
		{[][]int{{1, 2}}, [][]int{{3}, {4}}, 2},
		{[][]int{{1}, {2}}, [][]int{{3, 4}}, 1},
		{[][]int{{1, 2}, {3, 4}}, [][]int{{5, 6}, {7, 8}}, 2},
		{[][]int{{1, 2, 3}, {4, 5, 6}}, [][]int{{1, 2}, {3, 4}, {5, 6}}, 3},
		{[][]int{{1, 2}, {3, 4}, {5, 6}}, [][]int{{1, 2, 3}, {4, 5, 6}}, 2},
		{[][]int{{1}, {2}, {3}, {4}, {5}, {6}, {7}, {8}}, [][]int{{1, 2, 3, 4, 5, 6, 7, 8}}, 1},
		{[][]int{{1, 2, 3, 4, 5, 6, 7, 8}}, [][]int{{1}, {2}, {3}, {4}, {5}, {6}, {7}, {8}}, 8},
		{[][]int{{top, -top}}, [][]int{{-top}, {top}}, 2},
	} {
		if x := (api.Expert{In: c.in, Out: c.out}); !Right(x, c.dim) {
			t.Errorf("Right(%v, %d): false", x, c.dim)
		}
	}
}

// P11.1, Right: what is wrong, written out.
func TestWrongWrittenOut(t *testing.T) {
	nine := []int{1, 2, 3, 4, 5, 6, 7, 8, 9}
	for _, c := range []struct {
		in, out [][]int
		dim     int
	}{
		// dim, where there is nothing else to be wrong.
		{nil, nil, 0}, {[][]int{}, [][]int{}, 0}, {[][]int{{}}, nil, 0}, {[][]int{nil}, [][]int{}, 0}, {[][]int{{}, {}}, nil, 0}, {nil, nil, -1}, {[][]int{{}}, nil, -1},
		{[][]int{nine}, [][]int{{1}, {2}, {3}, {4}, {5}, {6}, {7}, {8}, {9}}, 9},
		{[][]int{{1}}, [][]int{{1}}, 0}, {[][]int{{1}}, [][]int{{1}}, 2}, {[][]int{{1}}, [][]int{{1}}, -1}, {[][]int{{1}}, [][]int{{1}}, math.MinInt}, {[][]int{{1}}, [][]int{{1}}, math.MaxInt},
		{[][]int{{1}}, [][]int{{1}}, 1 + 1<<32},
		// In's rows: none, nine.
		{nil, [][]int{{}}, 1}, {[][]int{}, [][]int{nil}, 1}, {nil, [][]int{{}, {}}, 2}, {nil, [][]int{{1}}, 1}, {nil, nil, 1},
		{[][]int{{1}, {2}, {3}, {4}, {5}, {6}, {7}, {8}, {9}}, [][]int{nine}, 1},
		// Rows of In: the first, in between, the last.
		{[][]int{{1}, {3, 4}, {5, 6}}, [][]int{{1, 2, 3}, {4, 5, 6}}, 2}, {[][]int{{1, 2}, {3}, {5, 6}}, [][]int{{1, 2, 3}, {4, 5, 6}}, 2}, {[][]int{{1, 2}, {3, 4}, {5}}, [][]int{{1, 2, 3}, {4, 5, 6}}, 2},
		{[][]int{{1, 2, 0}, {3, 4}, {5, 6}}, [][]int{{1, 2, 3}, {4, 5, 6}}, 2}, {[][]int{{1, 2}, {3, 4, 0}, {5, 6}}, [][]int{{1, 2, 3}, {4, 5, 6}}, 2}, {[][]int{{1, 2}, {3, 4}, {5, 6, 0}}, [][]int{{1, 2, 3}, {4, 5, 6}}, 2},
		// How many rows Out has.
		{[][]int{{1, 2}}, nil, 2}, {[][]int{{1, 2}}, [][]int{}, 2}, {[][]int{{1, 2}}, [][]int{{1}}, 2}, {[][]int{{1, 2}}, [][]int{{1}, {2}, {3}}, 2}, {[][]int{{1}}, nil, 1}, {[][]int{{1}}, [][]int{{1}, {1}}, 1},
		// Rows of Out: the first, in between, the last.
		{[][]int{{1, 2, 3}, {4, 5, 6}}, [][]int{{1}, {3, 4}, {5, 6}}, 3}, {[][]int{{1, 2, 3}, {4, 5, 6}}, [][]int{{1, 2}, {3}, {5, 6}}, 3}, {[][]int{{1, 2, 3}, {4, 5, 6}}, [][]int{{1, 2}, {3, 4}, {5}}, 3},
		{[][]int{{1, 2, 3}, {4, 5, 6}}, [][]int{{1, 2, 0}, {3, 4}, {5, 6}}, 3}, {[][]int{{1, 2, 3}, {4, 5, 6}}, [][]int{{1, 2}, {3, 4, 0}, {5, 6}}, 3}, {[][]int{{1, 2, 3}, {4, 5, 6}}, [][]int{{1, 2}, {3, 4}, {5, 6, 0}}, 3},
		// Out as if it were In: of as many rows as In, each of dim numbers.
		{[][]int{{1, 2, 3}, {4, 5, 6}}, [][]int{{1, 2, 3}, {4, 5, 6}}, 3}, {[][]int{{1}, {2}}, [][]int{{1}, {2}}, 1},
		// Numbers that layer 3 takes as wrong.
		{[][]int{{top + 1}}, [][]int{{1}}, 1}, {[][]int{{1}}, [][]int{{top + 1}}, 1}, {[][]int{{-top - 1}}, [][]int{{1}}, 1}, {[][]int{{1}}, [][]int{{-top - 1}}, 1},
	} {
		x := api.Expert{In: c.in, Out: c.out}
		if Right(x, c.dim) {
			t.Errorf("Right(%v, %d): true", x, c.dim)
		}
		if c.dim < 0 || c.dim > 9 {
			continue
		}
		if l, ok := Run(x, make([]int, c.dim)); len(l) != 0 || ok {
			t.Errorf("Run(%v, of %d): %v, %t", x, c.dim, l, ok)
		}
	}
}

// P11.1, Right: from 1 to 8 numbers, and from 1 to 8 rows of In, both alike and
// unlike, are right for just so many.
func TestRightAtAllSizes(t *testing.T) {
	for dim := range 12 {
		for inner := range 12 {
			x := made(dim*100+inner, dim, inner)
			if got, want := Right(x, dim), dim >= 1 && dim <= 8 && inner >= 1 && inner <= 8; got != want {
				t.Errorf("Right of %d and %d: %t", dim, inner, got)
			}
			for _, n := range dims() {
				if checkRight(t, x, n) && n != dim {
					t.Errorf("Right of %d and %d, for %d", dim, inner, n)
				}
			}
		}
	}
}

// P11.1, Right: each edge, wherever it stands, is right.
func TestRightAtEdges(t *testing.T) {
	for _, n := range edges() {
		for dim := 1; dim <= 8; dim++ {
			for inner := 1; inner <= 8; inner++ {
				if !checkRight(t, alike(n, dim, inner), dim) {
					t.Fatalf("%d, at %d and %d, is not right", n, dim, inner)
				}
			}
		}
	}
}

// P11.1, Right and Run: in each way to be wrong, false, and nothing.
func TestWrong(t *testing.T) {
	eachWrong(func(what string, x api.Expert, dim int) {
		if checkRight(t, x, dim) {
			t.Errorf("%s: Right(%s, %d): true", what, shown(x), dim)
		}
		if dim < 0 || dim > 1000 {
			return
		}
		m := mixed(dim)
		for _, v := range [][]int{make([]int, dim), m.row(dim)} {
			if l, ok := checkRun(t, x, v); len(l) != 0 || ok {
				t.Errorf("%s: Run(%s, %v): %v, %t", what, shown(x), v, l, ok)
			}
		}
	})
}

// P11.1, Run: a token of as many numbers as x is not right for.
func TestRunOfUnlikeTokens(t *testing.T) {
	for dim := 1; dim <= 8; dim++ {
		for inner := 1; inner <= 9; inner++ {
			x := made(dim+inner, dim, inner)
			for _, long := range []int{0, 1, 2, 3, 4, 5, 6, 7, 8, 9, 10, 16, 1000} {
				_, ok := checkRun(t, x, make([]int, long))
				if ok != (long == dim && inner < 9) {
					t.Errorf("Run of %d and %d, of %d numbers: %t", dim, inner, long, ok)
				}
			}
			for _, none := range [][]int{nil, {}, make([]int, 0, 8)} {
				if l, ok := checkRun(t, x, none); len(l) != 0 || ok {
					t.Errorf("Run of %d and %d, of none: %v", dim, inner, l)
				}
			}
		}
	}
	nine := made(9, 9, 8)
	if l, ok := checkRun(t, nine, make([]int, 9)); len(l) != 0 || ok {
		t.Errorf("Run of 9 and 8, of 9 numbers: %v", l)
	}
}

// P11.1, Run: written out.
func TestRunWrittenOut(t *testing.T) {
	for _, c := range []struct {
		in, out [][]int
		v, want []int
	}{
		{[][]int{{one}}, [][]int{{one}}, []int{7}, []int{7}},
		{[][]int{{one}}, [][]int{{one}}, []int{-7}, []int{0}},
		{[][]int{{one}}, [][]int{{-one}}, []int{7}, []int{-7}},
		{[][]int{{-one}}, [][]int{{one}}, []int{7}, []int{0}},
		{[][]int{{-one}}, [][]int{{one}}, []int{-7}, []int{7}},
		{[][]int{{-one}}, [][]int{{-one}}, []int{7}, []int{0}},
		// What is below 0 counts as 0, number by number, ahead of Out, and what
		// Out makes may be below 0.
		{[][]int{{one, -one}, {-one, one}}, [][]int{{one, one}, {0, one / 2}}, []int{5, 9}, []int{4, 2}},
		{[][]int{{one, -one}, {-one, one}}, [][]int{{one, one}, {0, one / 2}}, []int{9, 5}, []int{4, 0}},
		{[][]int{{one, 0}, {0, one}}, [][]int{{one, one}, {one, -one}}, []int{10, -4}, []int{10, 10}},
		{[][]int{{one, 0}, {0, one}}, [][]int{{one, one}, {one, -one}}, []int{-10, 4}, []int{4, -4}},
		{[][]int{{one, 0}, {0, one}}, [][]int{{one, one}, {one, -one}}, []int{-10, -4}, []int{0, 0}},
		{[][]int{{one, one}}, [][]int{{one}, {-one}}, []int{10, -4}, []int{6, -6}},
		{[][]int{{one, one}}, [][]int{{one}, {-one}}, []int{4, -10}, []int{0, 0}},
		// Fewer rows of In than numbers, and more; the order of the rows.
		{[][]int{{one, 2 * one, 3 * one}}, [][]int{{one}, {2 * one}, {-one}}, []int{1, 1, 1}, []int{6, 12, -6}},
		{[][]int{{one}, {2 * one}, {-one}}, [][]int{{one, one, one}}, []int{5}, []int{15}},
		{[][]int{{one}, {2 * one}, {-one}}, [][]int{{one, one, one}}, []int{-5}, []int{5}},
		{[][]int{{0, one}, {one, 0}}, [][]int{{one, 0}, {0, one}}, []int{3, 4}, []int{4, 3}},
		{[][]int{{one, 0}, {0, one}}, [][]int{{one, 0}, {one, 0}}, []int{3, 4}, []int{3, 3}},
		// What is left over is cut off by In, and then by Out once more.
		{[][]int{{one / 2}}, [][]int{{2 * one}}, []int{3}, []int{2}},
		{[][]int{{2 * one}}, [][]int{{one / 2}}, []int{3}, []int{3}},
		{[][]int{{one / 2, one / 2}}, [][]int{{one}, {-one / 2}}, []int{3, 3}, []int{2, -1}},
		{[][]int{{one / 2}}, [][]int{{top}}, []int{1}, []int{0}},
		// Held by In, on the way in a row and at its end.
		{[][]int{{2 * one}}, [][]int{{one / 2}}, []int{top}, []int{top / 2}},
		{[][]int{{top, top}}, [][]int{{one}, {one / 2}}, []int{one, -one}, []int{0, 0}},
		{[][]int{{one, one, -one}}, [][]int{{one}, {one}, {one}}, []int{top, top, top}, []int{0, 0, 0}},
		{[][]int{{-one, -one, one}}, [][]int{{one}, {one}, {one}}, []int{top, top, top}, []int{0, 0, 0}},
		{[][]int{{-one, one, one}}, [][]int{{one}, {one}, {one}}, []int{top, top, top}, []int{top, top, top}},
		{[][]int{{-2 * one, one}}, [][]int{{one}, {one}}, []int{top, top}, []int{0, 0}},
		{[][]int{{-2 * one, one, one}}, [][]int{{one}, {0}, {-one}}, []int{top, top, 5}, []int{5, 0, -5}},
		// Held by Out, on the way in a row and at its end.
		{[][]int{{one}}, [][]int{{2 * one}}, []int{top}, []int{top}},
		{[][]int{{one}}, [][]int{{-2 * one}}, []int{top}, []int{-top}},
		{[][]int{{one}, {one}, {one}}, [][]int{{one, one, -one}}, []int{top}, []int{0}},
		{[][]int{{one}, {one}, {one}}, [][]int{{-one, -one, one}}, []int{top}, []int{0}},
		{[][]int{{one}, {one}, {one}}, [][]int{{one, -one, one}}, []int{top}, []int{top}},
		{[][]int{{top}}, [][]int{{top}}, []int{top}, []int{top}},
		{[][]int{{top}}, [][]int{{-top}}, []int{top}, []int{-top}},
		{[][]int{{top}}, [][]int{{top}}, []int{-top}, []int{0}},
		// A token's numbers may be beyond Top: they are held.
		{[][]int{{one}}, [][]int{{one}}, []int{math.MaxInt}, []int{top}},
		{[][]int{{-one}}, [][]int{{one}}, []int{math.MinInt}, []int{top}},
		{[][]int{{one}}, [][]int{{one}}, []int{math.MinInt}, []int{0}},
		{[][]int{{one / 2}}, [][]int{{-one}}, []int{top + 1}, []int{-(top / 2)}},
		{[][]int{{one, one}}, [][]int{{one}, {one}}, []int{1 << 40, math.MinInt}, []int{0, 0}},
	} {
		x := api.Expert{In: c.in, Out: c.out}
		if l, ok := checkRun(t, x, c.v); !ok || !slices.Equal(l, c.want) {
			t.Errorf("Run(%v, %v): %v, %t, not %v", x, c.v, l, ok, c.want)
		}
	}
}

// P11.1, Run: one that is right, of all sizes, against layers 2 and 3 called by
// hand and against numbers without an end.
func TestRunByHand(t *testing.T) {
	for dim := 1; dim <= 8; dim++ {
		for inner := 1; inner <= 8; inner++ {
			all := []api.Expert{alike(one, dim, inner), alike(-one, dim, inner), alike(top, dim, inner)}
			for seed := range 6 {
				all = append(all, made(seed*100+dim*10+inner, dim, inner))
			}
			for _, x := range all {
				for _, v := range tokens(dim) {
					l, ok := checkRun(t, x, v)
					if !ok || len(l) != dim || !slices.Equal(l, byHand(x, v)) {
						t.Fatalf("Run(%s, %v): %v, %t, by hand %v", shown(x), v, l, ok, byHand(x, v))
					}
				}
			}
		}
	}
}

// P11.2: of noughts come noughts, as many, whatever stands in In and Out.
func TestNoughts(t *testing.T) {
	for dim := 1; dim <= 8; dim++ {
		for inner := 1; inner <= 8; inner++ {
			var all []api.Expert
			for _, n := range edges() {
				all = append(all, alike(n, dim, inner))
			}
			for seed := range 40 {
				all = append(all, made(seed, dim, inner))
			}
			for _, x := range all {
				if l, ok := checkRun(t, x, make([]int, dim)); !ok || !slices.Equal(l, make([]int, dim)) {
					t.Fatalf("Run(%s, %d noughts): %v, %t", shown(x), dim, l, ok)
				}
			}
		}
	}
}

// roomy is x in memory with room behind each row, and behind the rows; memory is
// all of it.
func roomy(x api.Expert, room int) (y api.Expert, memory [][]int) {
	laid := func(m [][]int) [][]int {
		rows := make([][]int, 0, len(m)+room)
		for _, row := range m {
			wide := slices.Concat(row, slices.Repeat([]int{-77}, room))
			memory = append(memory, wide)
			rows = append(rows, wide[:len(row)])
		}
		for k := range room {
			spare := []int{-88, k}
			memory = append(memory, spare)
			rows = append(rows, spare)
		}
		return rows[:len(m)]
	}
	return api.Expert{In: laid(x.In), Out: laid(x.Out)}, memory
}

func spoil(l []int) {
	l = l[:cap(l)]
	for i := range l {
		l[i] = -99
	}
}

// R1: what is handed in stays as it is, up to the end of its memory, and an
// answer shares none of it. R4: the room behind the numbers counts not.
func TestExpertsStay(t *testing.T) {
	for dim := 1; dim <= 8; dim++ {
		for inner := 1; inner <= 9; inner++ {
			for _, room := range []int{0, 1, 9} {
				x, memory := roomy(made(dim*inner, dim, inner), room)
				m := mixed(inner)
				wide := m.row(dim + room)
				v := wide[:dim]
				was, token := copied(api.Expert{In: memory}), slices.Clone(wide)
				for _, handed := range [][]int{v, wide[:dim-1], wide[:min(dim+1, dim+room)], x.In[0]} {
					kept := slices.Clone(handed)
					want, right := wantRun(x, kept)
					got, ok := Run(x, handed)
					if !slices.Equal(got, want) || ok != right || Right(x, len(handed)) != right {
						t.Fatalf("%d and %d, room for %d, of %v: %v, %t, not %v", dim, inner, room, kept, got, ok, want)
					}
					spoil(got)
					if !same(api.Expert{In: memory}, was) || !slices.Equal(wide, token) {
						t.Fatalf("%d and %d, room for %d, of %v: what was handed in is changed", dim, inner, room, kept)
					}
				}
			}
		}
	}
}

// R1, R4: nothing is kept: what was asked ahead does nothing to an answer, nor
// does what x and v become later, and no two answers share memory.
func TestAnswersAreApart(t *testing.T) {
	x, v := made(5, 3, 4), []int{one, -2 * one, 3}
	want, _ := wantRun(x, v)
	first, _ := Run(x, v)
	second, _ := Run(x, v)
	spoil(second)
	for _, row := range slices.Concat(x.In, x.Out) {
		spoil(row)
	}
	spoil(v)
	if !slices.Equal(first, want) {
		t.Errorf("what came later changed %v to %v", want, first)
	}
	y, other := made(6, 2, 8), []int{5, 9}
	for range 2 {
		checkRun(t, x, v)
		checkRun(t, y, other)
		checkRun(t, x, other)
		checkRun(t, api.Expert{}, nil)
	}
}

// R5: a row that is nil and one that is empty are the same, and so are lists.
func TestNilAndEmpty(t *testing.T) {
	for _, in := range [][][]int{nil, {}, {nil}, {{}}, {nil, {}}, {{one}}} {
		for _, out := range [][][]int{nil, {}, {nil}, {{}}, {{}, nil}, {{one}}} {
			x := api.Expert{In: in, Out: out}
			for _, dim := range dims() {
				if got := checkRight(t, x, dim); got != (dim == 1 && len(in) == 1 && len(in[0]) == 1 && len(out) == 1 && len(out[0]) == 1) {
					t.Errorf("Right(%v, %d): %t", x, dim, got)
				}
			}
			for _, v := range [][]int{nil, {}, {0}, {0, 0}} {
				checkRun(t, x, v)
			}
		}
	}
}

func FuzzExpert(f *testing.F) {
	f.Add(1, 1, 7, one, 2*one, 3*one)
	f.Add(8, 8, 3, top, -top, math.MinInt)
	f.Add(3, 9, 1, top+1, one, math.MaxInt)
	f.Add(0, 0, 0, 0, 0, 0)
	f.Fuzz(func(t *testing.T, dim, inner, seed, a, b, c int) {
		if dim < 0 || dim > 12 || inner < 0 || inner > 12 {
			t.Skip()
		}
		x, m := made(seed, dim, inner), mixed(seed)
		v := m.row(dim)
		checkRight(t, x, dim)
		checkRight(t, x, a)
		checkRun(t, x, v)
		if dim > 0 && inner > 0 {
			x.In[m.next(inner)][m.next(dim)] = a
			x.Out[m.next(dim)][m.next(inner)] = b
			v[m.next(dim)] = c
		}
		checkRight(t, x, dim)
		checkRun(t, x, v)
		checkRun(t, x, make([]int, dim))
		checkRun(t, x, append(v, c))
	})
}
