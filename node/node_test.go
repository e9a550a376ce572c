package node

import (
	"encoding/binary"
	"fmt"
	"math"
	"math/big"
	"reflect"
	"slices"
	"testing"

	"switchboard/api"
	"switchboard/expert"
	"switchboard/ledger"
	"switchboard/place"
	"switchboard/wire"
)

const (
	one  = 65536
	half = 32768
	most = 2147483647
)

// mixed gives numbers that are always the same ones for a seed.
type mixed uint64

func (m *mixed) next(below int) int {
	*m = *m*6364136223846793005 + 1442695040888963407
	return int(uint64(*m)>>33) % below
}

func (m *mixed) of(numbers ...int) int { return numbers[m.next(len(numbers))] }

// number is held: small, around One, an edge, or anything up to Top.
func (m *mixed) number() int {
	switch m.next(5) {
	case 0:
		return m.next(21) - 10
	case 1:
		return (m.next(9)-4)*one + m.next(5) - 2
	case 2:
		return m.of(0, 1, -1, half, -half, one-1, 1-one, one, -one, most-1, 1-most, most, -most)
	case 3:
		return m.next(2*one) - one
	}
	return m.next(most) - m.next(most)
}

func (m *mixed) row(many int) []int {
	l := make([]int, many)
	for i := range l {
		l[i] = m.number()
	}
	return l
}

func (m *mixed) rows(many, long int) [][]int {
	l := make([][]int, many)
	for i := range l {
		l[i] = m.row(long)
	}
	return l
}

// layer has experts of however many rows within.
func (m *mixed) layer(dim, experts int) api.Layer {
	l := api.Layer{Gate: m.rows(experts, dim), Capacity: 1 + m.next(32)}
	for range experts {
		inner := 1 + m.next(8)
		l.Experts = append(l.Experts, api.Expert{In: m.rows(inner, dim), Out: m.rows(dim, inner)})
	}
	return l
}

// made is a right model, of so many experts in each of its layers.
func made(seed, dim int, experts ...int) api.Model {
	m := mixed(seed)
	all := api.Model{Dim: dim}
	for _, many := range experts {
		all.Layers = append(all.Layers, m.layer(dim, many))
	}
	return all
}

// model is a right one, whose layers are unlike.
func (m *mixed) model() api.Model {
	all := api.Model{Dim: 1 + m.next(8)}
	for range 1 + m.next(4) {
		all.Layers = append(all.Layers, m.layer(all.Dim, 1+m.next(8)))
	}
	return all
}

// lists are all that an expert's Holders can be, written out.
func lists() [][]int {
	return [][]int{
		{1}, {2}, {3}, {4}, {1, 2}, {1, 3}, {1, 4}, {2, 3}, {2, 4}, {3, 4},
		{1, 2, 3}, {1, 2, 4}, {1, 3, 4}, {2, 3, 4}, {1, 2, 3, 4},
	}
}

// call is what Work is handed.
type call struct {
	m    api.Model
	p    place.Map
	node int
	l    []ledger.Entry
	a    api.Msg
}

func (c call) work() ([]ledger.Entry, api.Msg, bool) { return Work(c.m, c.p, c.node, c.l, c.a) }

// asked is a message that the node 2 works on, with an Answer: its layer 1 has
// four experts, its others 6, 1 and 8, and the node 2 holds five of seven.
func asked() call {
	return call{
		made(18, 3, 6, 4, 1, 8),
		place.Map{Epoch: 9, Holders: [][]int{{1}, {2, 3}, {1, 2}, {1, 2, 3, 4}, {2}, {2, 4}, {3, 4}}},
		2,
		[]ledger.Entry{{Key: ledger.Key{Batch: 1}, Vec: []int{7}}, {Key: ledger.Key{Batch: 6, Layer: 1, Token: 2}, Vec: []int{8, 9}}},
		api.Msg{Kind: 1, From: 3, To: 2, Seq: 4, Batch: 5, Layer: 1, Token: 6, Rank: 7, Expert: 3, Epoch: 9, Vec: []int{one, -2 * one, half}},
	}
}

func key(a api.Msg) ledger.Key {
	return ledger.Key{Batch: a.Batch, Layer: a.Layer, Token: a.Token, Rank: a.Rank}
}

// apart is a call like c, in memory of its own.
func (c call) apart() call {
	c.m = api.Model{Dim: c.m.Dim, Layers: slices.Clone(c.m.Layers)}
	for i, l := range c.m.Layers {
		experts := slices.Clone(l.Experts)
		for k, x := range experts {
			experts[k] = api.Expert{In: copiedRows(x.In), Out: copiedRows(x.Out)}
		}
		c.m.Layers[i] = api.Layer{Gate: copiedRows(l.Gate), Experts: experts, Capacity: l.Capacity}
	}
	c.p.Holders = copiedRows(c.p.Holders)
	c.l = copiedLedger(c.l)
	c.a.Vec = slices.Clone(c.a.Vec)
	return c
}

func copiedRows(rows [][]int) [][]int {
	l := slices.Clone(rows)
	for i := range l {
		l[i] = slices.Clone(l[i])
	}
	return l
}

func copiedLedger(l []ledger.Entry) []ledger.Entry {
	m := slices.Clone(l)
	for i := range m {
		m[i].Vec = slices.Clone(m[i].Vec)
	}
	return m
}

func sameLedger(l, m []ledger.Entry) bool {
	return slices.EqualFunc(l, m, func(d, e ledger.Entry) bool { return d.Key == e.Key && slices.Equal(d.Vec, e.Vec) })
}

func sameMsg(a, b api.Msg) bool {
	row := slices.Equal(a.Vec, b.Vec)
	a.Vec, b.Vec = nil, nil
	return row && reflect.DeepEqual(a, b)
}

// shown keeps what a test says short.
func shown(c call) string {
	var layers []int
	for _, l := range c.m.Layers {
		layers = append(layers, len(l.Experts))
	}
	return fmt.Sprintf("Work(Dim %d, experts %v, %.200s, %d, %s, %.300s)", c.m.Dim, layers, fmt.Sprint(c.p), c.node, shownLedger(c.l), fmt.Sprintf("%+v", c.a))
}

func shownLedger(l []ledger.Entry) string { return fmt.Sprintf("%.200s (%d)", fmt.Sprint(l), len(l)) }

// held, times, and what is wanted by them, don't call the layers below.
func held(n int) int { return max(-most, min(most, n)) }

func times(a, b int) int {
	p := new(big.Int).Mul(big.NewInt(int64(held(a))), big.NewInt(int64(held(b))))
	return held(int(p.Quo(p, big.NewInt(one)).Int64()))
}

func wantDot(row, v []int) int {
	sum := 0
	for i := range row {
		sum = held(sum + times(row[i], v[i]))
	}
	return sum
}

func wantExpert(x api.Expert, v []int) []int {
	var inner, out []int
	for _, row := range x.In {
		inner = append(inner, max(wantDot(row, v), 0))
	}
	for _, row := range x.Out {
		out = append(out, wantDot(row, inner))
	}
	return out
}

func within(n, low, high int) bool { return low <= n && n <= high }

// rightRows: are there so many, of so many numbers that are held?
func rightRows(rows [][]int, many, long int) bool {
	right := len(rows) == many
	for _, row := range rows {
		right = right && len(row) == long
		for _, n := range row {
			right = right && within(n, -most, most)
		}
	}
	return right
}

// wantModel, wantMap and wantMsg are the words of layers 15, 17 and 7.
func wantModel(m api.Model) bool {
	right := within(m.Dim, 1, 8) && within(len(m.Layers), 1, 4)
	for _, l := range m.Layers {
		right = right && within(len(l.Experts), 1, 8) && within(l.Capacity, 1, 32) && rightRows(l.Gate, len(l.Experts), m.Dim)
		for _, x := range l.Experts {
			right = right && within(len(x.In), 1, 8) && rightRows(x.In, len(x.In), m.Dim) && rightRows(x.Out, m.Dim, len(x.In))
		}
	}
	return right
}

func wantMap(p place.Map) bool {
	for _, nodes := range p.Holders {
		if !slices.ContainsFunc(lists(), func(l []int) bool { return slices.Equal(l, nodes) }) {
			return false
		}
	}
	return within(p.Epoch, 0, most) && len(p.Holders) <= 8
}

func wantMsg(a api.Msg) bool {
	right := within(a.Kind, 1, 4) && len(a.Vec) <= 8
	for _, n := range []int{a.From, a.To, a.Seq, a.Batch, a.Layer, a.Token, a.Rank, a.Expert, a.Epoch} {
		right = right && within(n, 0, 2147483647)
	}
	for _, n := range a.Vec {
		right = right && within(n, -2147483648, 2147483647)
	}
	return right
}

// wantAsked: does the model have what a right message asks for?
func wantAsked(m api.Model, a api.Msg) bool {
	for i, l := range m.Layers {
		for k := range l.Experts {
			if i == a.Layer && k == a.Expert {
				return rightRows([][]int{a.Vec}, 1, m.Dim)
			}
		}
	}
	return false
}

func wantHolds(p place.Map, expert, node int) bool {
	for i, nodes := range p.Holders {
		if i == expert && slices.Contains(nodes, node) {
			return true
		}
	}
	return false
}

// wantWork is P18.1, sentence by sentence.
func wantWork(c call) ([]ledger.Entry, api.Msg, bool) {
	a := c.a
	if !wantModel(c.m) || !wantMap(c.p) || !wantMsg(a) || a.Kind != 1 || a.To != c.node || !wantAsked(c.m, a) {
		return c.l, api.Msg{}, false
	}
	b := api.Msg{Kind: 3, From: c.node, To: a.From, Seq: a.Seq, Batch: a.Batch, Layer: a.Layer, Token: a.Token, Rank: a.Rank, Expert: a.Expert, Epoch: c.p.Epoch}
	if a.Epoch != c.p.Epoch || !wantHolds(c.p, a.Expert, c.node) {
		return c.l, b, true
	}
	b.Kind = 2
	for _, e := range c.l {
		if e.Key.Batch == a.Batch && e.Key.Layer == a.Layer && e.Key.Token == a.Token && e.Key.Rank == a.Rank {
			b.Vec = e.Vec
			return c.l, b, true
		}
	}
	b.Vec = wantExpert(c.m.Layers[a.Layer].Experts[a.Expert], a.Vec)
	return append(copiedLedger(c.l), ledger.Entry{Key: key(a), Vec: b.Vec}), b, true
}

// check holds a call against the chapter, twice, and what was handed in against
// what it was.
func check(t *testing.T, c call) ([]ledger.Entry, api.Msg, bool) {
	t.Helper()
	was := c.apart()
	wantL, wantB, want := wantWork(was)
	l, b, ok := c.work()
	if ok != want || !sameMsg(b, wantB) || !sameLedger(l, wantL) {
		t.Fatalf("%s: %s, %+v, %t, not %s, %+v, %t", shown(was), shownLedger(l), b, ok, shownLedger(wantL), wantB, want)
	}
	if m, d, again := c.work(); again != ok || !sameMsg(d, b) || !sameLedger(m, l) {
		t.Fatalf("%s, once more: %s, %+v, %t, not %s, %+v, %t", shown(was), shownLedger(m), d, again, shownLedger(l), b, ok)
	}
	if !reflect.DeepEqual(c, was) {
		t.Fatalf("%s: it is now %s", shown(was), shown(c))
	}
	return l, b, ok
}

// ledgersOf are those in which the key of c is not, and in which it is: of a row
// that its expert would not make, and of none.
func ledgersOf(c call) [][]ledger.Entry {
	k := key(c.a)
	return [][]ledger.Entry{
		nil, {}, make([]ledger.Entry, 0, 4), c.l, {{Key: k, Vec: []int{4, 4, 4}}}, {{Key: k}}, {{Key: k, Vec: []int{}}},
		append(slices.Clip(c.l), ledger.Entry{Key: k, Vec: []int{5}}, ledger.Entry{Key: k, Vec: []int{6}}),
	}
}

// checkNothing: c is not worked on, whatever the ledger has.
func checkNothing(t *testing.T, what string, c call) {
	t.Helper()
	for _, l := range ledgersOf(c) {
		d := c
		d.l = l
		if got, b, ok := check(t, d); ok || !sameMsg(b, api.Msg{}) || b.Vec != nil || !sameLedger(got, l) {
			t.Errorf("%s: %s: %s, %+v, %t", what, shown(d), shownLedger(got), b, ok)
		}
	}
}

// checkStale: c is worked on with Stale, whatever the ledger has.
func checkStale(t *testing.T, what string, c call) {
	t.Helper()
	for _, l := range ledgersOf(c) {
		d := c
		d.l = l
		got, b, ok := check(t, d)
		if !ok || b.Kind != 3 || len(b.Vec) != 0 || b.Epoch != c.p.Epoch || !sameLedger(got, l) {
			t.Errorf("%s: %s: %s, %+v, %t", what, shown(d), shownLedger(got), b, ok)
		}
	}
}

// checkAnswer: c is worked on with an Answer, and, where its key is not in the
// ledger, with what the expert makes, and just that entry behind.
func checkAnswer(t *testing.T, what string, c call) {
	t.Helper()
	for _, l := range ledgersOf(c) {
		d := c
		d.l = l
		got, b, ok := check(t, d)
		if !ok || b.Kind != 2 || b.Epoch != c.p.Epoch || b.Epoch != c.a.Epoch {
			t.Errorf("%s: %s: %+v, %t", what, shown(d), b, ok)
		}
		want, there := ledger.Find(l, key(c.a))
		if there {
			if !slices.Equal(b.Vec, want) || !sameLedger(got, l) {
				t.Errorf("%s: %s: %s, %+v, not %v", what, shown(d), shownLedger(got), b, want)
			}
			continue
		}
		want, _ = expert.Run(c.m.Layers[c.a.Layer].Experts[c.a.Expert], c.a.Vec)
		if !slices.Equal(b.Vec, want) || len(got) != len(l)+1 || !sameLedger(got[:len(l)], l) || !sameLedger(got[len(l):], []ledger.Entry{{Key: key(c.a), Vec: want}}) {
			t.Errorf("%s: %s: %s, %+v, not %v", what, shown(d), shownLedger(got), b, want)
		}
	}
}

// The chapter's example: asked twice, the same answer, one entry.
func TestExample(t *testing.T) {
	m := api.Model{Dim: 1, Layers: []api.Layer{{Gate: [][]int{{0}}, Experts: []api.Expert{{In: [][]int{{one}}, Out: [][]int{{2 * one}}}}, Capacity: 1}}}
	c := call{m, place.Map{Holders: [][]int{{1}}}, 1, nil, api.Msg{Kind: 1, To: 1, Seq: 8, Batch: 1, Vec: []int{3 * one}}}
	first, b, ok := check(t, c)
	want := api.Msg{Kind: 2, From: 1, Seq: 8, Batch: 1, Vec: []int{6 * one}}
	if !ok || !sameMsg(b, want) || !sameLedger(first, []ledger.Entry{{Key: ledger.Key{Batch: 1}, Vec: []int{6 * one}}}) {
		t.Fatalf("asked: %v, %+v, %t", first, b, ok)
	}
	c.l = first
	if again, b, ok := check(t, c); !ok || !sameMsg(b, want) || !sameLedger(again, first) {
		t.Fatalf("asked again: %v, %+v, %t", again, b, ok)
	}
}

// P18.1, written out: one message, and what comes of it.
func TestWrittenOut(t *testing.T) {
	lines := func(ks ...int) api.Layer {
		l := api.Layer{Capacity: 1}
		for _, k := range ks {
			l.Gate = append(l.Gate, []int{0})
			l.Experts = append(l.Experts, api.Expert{In: [][]int{{one}}, Out: [][]int{{k * one}}})
		}
		return l
	}
	m := api.Model{Dim: 1, Layers: []api.Layer{lines(1, 2, 3), lines(-4, 5)}}
	p := place.Map{Epoch: 3, Holders: [][]int{{1}, {1, 2}, {4}}}
	l := []ledger.Entry{{Key: ledger.Key{Batch: 1, Layer: 1, Token: 2, Rank: 1}, Vec: []int{77}}}
	for i, c := range []struct {
		node, kind, batch, layer, token, rank, expert, epoch, number int
		ok                                                           bool
		told, of                                                     int
		entries                                                      int
	}{
		{2, 1, 1, 0, 2, 1, 1, 3, 10, true, 2, 20, 2},
		{2, 1, 1, 0, 2, 1, 1, 3, -10, true, 2, 0, 2},
		{1, 1, 1, 0, 2, 1, 0, 3, 10, true, 2, 10, 2},
		{4, 1, 1, 0, 2, 1, 2, 3, 10, true, 2, 30, 2},
		{1, 1, 1, 1, 2, 0, 0, 3, 10, true, 2, -40, 2},
		{2, 1, 9, 1, 2, 1, 1, 3, 10, true, 2, 50, 2},
		{2, 1, 1, 1, 2, 1, 1, 3, 10, true, 2, 77, 1},
		{1, 1, 1, 1, 2, 1, 0, 3, 10, true, 2, 77, 1},
		{2, 1, 1, 1, 2, 1, 0, 3, 10, true, 3, 0, 1},
		{3, 1, 1, 1, 2, 1, 1, 3, 10, true, 3, 0, 1},
		{2, 1, 1, 1, 2, 1, 1, 2, 10, true, 3, 0, 1},
		{2, 1, 1, 1, 2, 1, 1, 4, 10, true, 3, 0, 1},
		{2, 1, 1, 0, 2, 1, 2, 3, 10, true, 3, 0, 1},
		{4, 1, 1, 1, 2, 1, 2, 3, 10, false, 0, 0, 1},
		{2, 1, 1, 0, 2, 1, 3, 3, 10, false, 0, 0, 1},
		{2, 1, 1, 2, 2, 1, 1, 3, 10, false, 0, 0, 1},
		{2, 2, 1, 0, 2, 1, 1, 3, 10, false, 0, 0, 1},
	} {
		a := api.Msg{Kind: c.kind, From: 6, To: c.node, Seq: 5, Batch: c.batch, Layer: c.layer, Token: c.token, Rank: c.rank, Expert: c.expert, Epoch: c.epoch, Vec: []int{c.number}}
		got, b, ok := check(t, call{m, p, c.node, l, a})
		want := api.Msg{}
		if c.ok {
			want = api.Msg{Kind: c.told, From: c.node, To: 6, Seq: 5, Batch: c.batch, Layer: c.layer, Token: c.token, Rank: c.rank, Expert: c.expert, Epoch: 3}
		}
		if c.told == 2 {
			want.Vec = []int{c.of}
		}
		if ok != c.ok || !sameMsg(b, want) || len(got) != c.entries {
			t.Errorf("%d: %v, %+v, %t", i, got, b, ok)
		}
	}
}

// beyond are the numbers that are not held.
func beyond() []int {
	return []int{most + 1, -most - 1, -most - 2, 1 << 32, 1<<32 + 1, -1 << 32, math.MaxInt, math.MinInt}
}

// P18.1: of a model that is not right nothing is worked on, also where what is
// wrong is not what is asked for.
func TestWrongModels(t *testing.T) {
	checkAnswer(t, "right", asked())
	nothing := func(what string, spoil func(m *api.Model)) {
		t.Helper()
		c := asked().apart()
		spoil(&c.m)
		if wantModel(c.m) {
			t.Fatalf("the test's own: %s", what)
		}
		checkNothing(t, what, c)
	}
	for _, dim := range []int{math.MinInt, -1, 0, 2, 4, 9, 1<<32 + 3, math.MaxInt} {
		nothing("Dim", func(m *api.Model) { m.Dim = dim })
	}
	nothing("all of nothing", func(m *api.Model) { *m = api.Model{} })
	nothing("no layer", func(m *api.Model) { m.Layers = nil })
	nothing("a fifth layer", func(m *api.Model) { m.Layers = append(m.Layers, m.Layers[0]) })
	for at := range 4 {
		for _, capacity := range []int{math.MinInt, -1, 0, 33, 1 << 32, 1<<32 + 1, math.MaxInt} {
			nothing("Capacity", func(m *api.Model) { m.Layers[at].Capacity = capacity })
		}
		nothing("no expert", func(m *api.Model) { m.Layers[at].Gate, m.Layers[at].Experts = nil, nil })
		nothing("a ninth expert", func(m *api.Model) { m.Layers[at] = made(1, 3, 9).Layers[0] })
		nothing("no Gate", func(m *api.Model) { m.Layers[at].Gate = nil })
		nothing("a row less", func(m *api.Model) { m.Layers[at].Gate = m.Layers[at].Gate[1:] })
		nothing("a row more", func(m *api.Model) { m.Layers[at].Gate = append(m.Layers[at].Gate, []int{0, 0, 0}) })
		nothing("an expert more", func(m *api.Model) { m.Layers[at].Experts = append(m.Layers[at].Experts, m.Layers[0].Experts[0]) })
		last := len(asked().m.Layers[at].Experts) - 1
		for _, x := range []int{0, last} {
			nothing("a row of the Gate, too short", func(m *api.Model) { m.Layers[at].Gate[x] = []int{1, 2} })
			nothing("a row of the Gate, too long", func(m *api.Model) { m.Layers[at].Gate[x] = []int{1, 2, 3, 4} })
			nothing("no In, no Out", func(m *api.Model) { m.Layers[at].Experts[x] = api.Expert{} })
			nothing("no In", func(m *api.Model) { m.Layers[at].Experts[x].In = nil })
			nothing("no Out", func(m *api.Model) { m.Layers[at].Experts[x].Out = nil })
			nothing("In of 9", func(m *api.Model) { m.Layers[at].Experts[x] = api.Expert{In: zeros(9, 3), Out: zeros(3, 9)} })
			nothing("of 2 numbers", func(m *api.Model) { m.Layers[at].Experts[x] = api.Expert{In: zeros(5, 2), Out: zeros(2, 5)} })
			nothing("of 4 numbers", func(m *api.Model) { m.Layers[at].Experts[x] = api.Expert{In: zeros(5, 4), Out: zeros(4, 5)} })
			nothing("Out too short", func(m *api.Model) { m.Layers[at].Experts[x] = api.Expert{In: zeros(5, 3), Out: zeros(3, 4)} })
			nothing("Out too long", func(m *api.Model) { m.Layers[at].Experts[x] = api.Expert{In: zeros(5, 3), Out: zeros(3, 6)} })
			for _, n := range beyond() {
				nothing("a number of the Gate", func(m *api.Model) { m.Layers[at].Gate[x][2] = n })
				nothing("a number of In", func(m *api.Model) { m.Layers[at].Experts[x].In[0][1] = n })
				nothing("a number of Out", func(m *api.Model) { m.Layers[at].Experts[x].Out[2][0] = n })
			}
		}
	}
}

func zeros(many, long int) [][]int {
	l := make([][]int, many)
	for i := range l {
		l[i] = make([]int, long)
	}
	return l
}

// P18.1: by a map that is not right nothing is worked on, also where what is
// wrong is not the expert that is asked.
func TestWrongMaps(t *testing.T) {
	nothing := func(what string, spoil func(c *call)) {
		t.Helper()
		c := asked().apart()
		spoil(&c)
		if wantMap(c.p) {
			t.Fatalf("the test's own: %s", what)
		}
		checkNothing(t, what, c)
	}
	for _, epoch := range []int{math.MinInt, -1 << 32, -2, -1, most + 1, 1 << 32, 1<<32 + 9, math.MaxInt} {
		nothing("Epoch", func(c *call) { c.p.Epoch = epoch })
		nothing("Epoch, and the message's", func(c *call) { c.p.Epoch, c.a.Epoch = epoch, epoch })
	}
	for _, many := range []int{9, 10, 16, 257} {
		nothing("too many experts", func(c *call) { c.p.Holders = slices.Repeat([][]int{{2}}, many) })
	}
	for at := range 7 {
		for _, nodes := range [][]int{
			nil, {}, make([]int, 0, 4), {0}, {5}, {-1}, {0, 2}, {-1, 2}, {2, 5}, {2, 2}, {1, 2, 2}, {2, 1}, {3, 2}, {4, 3, 2, 1}, {1, 3, 2}, {1, 2, 3, 4, 5}, {0, 1, 2, 3, 4},
			{2, math.MaxInt}, {math.MinInt, 2}, {1<<32 + 2}, make([]int, 100),
		} {
			nothing("Holders", func(c *call) { c.p.Holders[at] = nodes })
		}
	}
}

// fields are those of a message, but Kind and Vec, by their names.
func fields(a *api.Msg) []struct {
	name string
	at   *int
} {
	return []struct {
		name string
		at   *int
	}{
		{"From", &a.From}, {"To", &a.To}, {"Seq", &a.Seq}, {"Batch", &a.Batch}, {"Layer", &a.Layer},
		{"Token", &a.Token}, {"Rank", &a.Rank}, {"Expert", &a.Expert}, {"Epoch", &a.Epoch},
	}
}

// P18.1: a message that is not right is not worked on, and neither is one of
// another Kind than Ask.
func TestWrongMessages(t *testing.T) {
	for _, kind := range []int{0, 2, 3, 4, 5, -1, -2, 6, 255, 256, 257, 1<<32 + 1, -1<<32 + 1, most + 1, math.MaxInt, math.MinInt, math.MinInt + 1} {
		c := asked().apart()
		c.a.Kind = kind
		checkNothing(t, fmt.Sprint("Kind ", kind), c)
		// Also one that a node could have said itself.
		c.a.Vec = nil
		checkNothing(t, fmt.Sprint("Kind, without Vec, ", kind), c)
	}
	for i := range 9 {
		for _, n := range []int{-1, -2, math.MinInt32, -1 << 32, math.MinInt, most + 1, 1 << 32, 1<<32 + 1, math.MaxInt} {
			c := asked().apart()
			field := fields(&c.a)[i]
			for _, m := range []int{n, *field.at + 1<<32, *field.at - 1<<32} {
				*field.at = m
				if wantMsg(c.a) {
					t.Fatalf("the test's own: %s %d", field.name, m)
				}
				checkNothing(t, field.name, c)
				// To the node, however it is called, and of the map's own Epoch.
				d := c.apart()
				d.node, d.p.Epoch = d.a.To, d.a.Epoch
				checkNothing(t, field.name+", alike", d)
			}
		}
	}
	for _, n := range beyond() {
		for at := range 3 {
			c := asked().apart()
			c.a.Vec[at] = n
			checkNothing(t, fmt.Sprint("a number of Vec ", n), c)
		}
	}
	checkNothing(t, "no message", call{asked().m, asked().p, 0, asked().l, api.Msg{}})
}

// P18.1: a message for another node than node is not worked on, also where that
// one holds the expert.
func TestOtherNodes(t *testing.T) {
	nodes := []int{0, 1, 2, 3, 4, 5, 6, 100, 257, most - 1, most, -1, -2, math.MinInt, 1<<32 + 2, -1<<32 + 2, most + 1, math.MaxInt}
	for _, node := range nodes {
		for _, to := range nodes {
			c := asked().apart()
			c.node, c.a.To = node, to
			switch {
			case node != to || to < 0 || to > most:
				checkNothing(t, "To another", c)
			case node >= 1 && node <= 4:
				checkAnswer(t, "To node", c)
			default:
				// A message may be To any number from 0 on: it is one To node, that holds nothing.
				checkStale(t, "To one that holds nothing", c)
			}
		}
	}
}

// P18.1: a Layer that the model has not, or an Expert that this Layer has not,
// is not worked on, whatever other layers and the map have.
func TestNoSuchExpert(t *testing.T) {
	experts := []int{6, 4, 1, 8}
	for layer := range 12 {
		for x := range 12 {
			for _, holders := range [][][]int{nil, {{2}}, slices.Repeat([][]int{{2}}, 7), slices.Repeat([][]int{{1, 2, 4}}, 8)} {
				c := asked().apart()
				c.a.Layer, c.a.Expert, c.p.Holders = layer, x, holders
				switch {
				case layer >= 4 || x >= experts[layer]:
					checkNothing(t, "no such expert", c)
				case x >= len(holders):
					checkStale(t, "no Holders", c)
				default:
					checkAnswer(t, "there", c)
				}
			}
		}
	}
	for many := 1; many <= 4; many++ {
		for layer := range 6 {
			c := asked().apart()
			c.m.Layers, c.a.Layer, c.a.Expert, c.p.Holders = c.m.Layers[:many], layer, 0, [][]int{{2}}
			if layer >= many {
				checkNothing(t, "no such layer", c)
			} else {
				checkAnswer(t, "such a layer", c)
			}
		}
	}
	for _, n := range []int{8, 9, 255, 256, 65536, most - 1, most} {
		c := asked().apart()
		c.a.Layer = n
		checkNothing(t, "Layer", c)
		c = asked().apart()
		c.a.Expert = n
		checkNothing(t, "Expert", c)
	}
}

// P18.1: a Vec that is not of Dim numbers is not worked on, also where the key is
// there; nor is one of a number that is right in a message, but not held.
func TestWrongVecs(t *testing.T) {
	for dim := 1; dim <= 8; dim++ {
		for long := range 11 {
			c := asked().apart()
			c.m = made(dim, dim, 2, 4)
			c.a.Vec = make([]int, long)
			for i := range c.a.Vec {
				c.a.Vec[i] = (i - 3) * one
			}
			if long == dim {
				checkAnswer(t, "Dim numbers", c)
			} else {
				checkNothing(t, "not Dim numbers", c)
			}
		}
		for at := range dim {
			for n, right := range map[int]bool{
				most: true, -most: true, most - 1: true, 1 - most: true, 0: true, -2147483648: false, 2147483648: false, -2147483649: false, math.MaxInt: false, math.MinInt: false,
			} {
				c := asked().apart()
				c.m = made(dim, dim, 2, 4)
				c.a.Vec = make([]int, dim)
				c.a.Vec[at] = n
				if right {
					checkAnswer(t, "held", c)
				} else {
					checkNothing(t, "not held", c)
				}
			}
		}
	}
	for _, vec := range [][]int{nil, {}, make([]int, 0, 8)} {
		c := asked()
		c.a.Vec = vec
		checkNothing(t, "no number", c)
	}
	// What is not worked on is not Stale either.
	for _, spoil := range []func(c *call){
		func(c *call) { c.a.Vec = []int{1, 2} },
		func(c *call) { c.a.Vec[1] = -2147483648 },
		func(c *call) { c.a.Expert = 4 },
		func(c *call) { c.a.Layer = 4 },
		func(c *call) { c.a.To = 1 },
		func(c *call) { c.a.Kind = 3 },
		func(c *call) { c.m.Layers[0].Capacity = 0 },
		func(c *call) { c.p.Holders[6] = nil },
	} {
		for _, stale := range []func(c *call){func(c *call) { c.a.Epoch = 8 }, func(c *call) { c.p.Holders[c.a.Expert] = []int{4} }} {
			c := asked().apart()
			stale(&c)
			spoil(&c)
			checkNothing(t, "neither right nor new", c)
		}
	}
}

// P18.1: an Epoch that is not the map's, below it or above, is Stale.
func TestStaleEpochs(t *testing.T) {
	epochs := []int{0, 1, 2, 8, 9, 10, 255, 256, 257, 65536, most - 1, most}
	for _, has := range epochs {
		for _, says := range epochs {
			c := asked().apart()
			c.p.Epoch, c.a.Epoch = has, says
			if has == says {
				checkAnswer(t, "the map's Epoch", c)
			} else {
				checkStale(t, "another Epoch", c)
			}
			c.p.Holders[c.a.Expert] = []int{1, 3}
			checkStale(t, "held by others", c)
		}
	}
}

// P18.1: a node that does not hold the expert says Stale, and one that does
// answers, whatever others hold, for each node, each list of Holders and each
// expert.
func TestHolders(t *testing.T) {
	for _, nodes := range lists() {
		for x := range 8 {
			for node := range 6 {
				c := asked().apart()
				c.a.Layer, c.a.Expert, c.node, c.a.To = 3, x, node, node
				others := []int{1, 2, 3, 4}
				if slices.Contains(nodes, node) {
					others = []int{1 + node%4}
				}
				c.p.Holders = slices.Repeat([][]int{others}, 8)
				c.p.Holders[x] = nodes
				if slices.Contains(nodes, node) {
					checkAnswer(t, "holds it", c)
				} else {
					checkStale(t, "does not hold it", c)
				}
			}
		}
	}
	for many := range 9 {
		for x := range 8 {
			c := asked().apart()
			c.a.Layer, c.a.Expert = 3, x
			c.p.Holders = slices.Repeat([][]int{{1, 2, 3, 4}}, many)
			if x < many {
				checkAnswer(t, "has Holders", c)
			} else {
				checkStale(t, "no Holders at all", c)
			}
		}
	}
}

// P18.1: what the ledger has is told, though the expert makes something else, or
// though it could not make it: rows of no number, of too many, of any number.
func TestAnswersOfTheLedger(t *testing.T) {
	c := asked()
	k := key(c.a)
	other := ledger.Key{Batch: 5, Layer: 1, Token: 6, Rank: 8}
	for _, row := range [][]int{nil, {}, {0}, {0, 0, 0}, {1, 2, 3}, {3, 2, 1}, {1, 2, 3, 4}, {math.MinInt, math.MaxInt, 1 << 40}, make([]int, 9), make([]int, 100)} {
		for _, l := range [][]ledger.Entry{
			{{Key: k, Vec: row}},
			{{Key: k, Vec: row}, {Key: k, Vec: []int{9, 9, 9}}},
			{{Key: k, Vec: row}, {Key: k}, {Key: k, Vec: []int{9}}},
			{{Key: other, Vec: []int{8}}, {Key: k, Vec: row}},
			{{Key: other, Vec: []int{8}}, {Key: k, Vec: row}, {Key: other}, {Key: k, Vec: []int{9, 9, 9}}},
		} {
			c.l = l
			if got, b, ok := check(t, c); !ok || b.Kind != 2 || !slices.Equal(b.Vec, row) || !sameLedger(got, l) {
				t.Errorf("%s: %s, %+v, %t", shown(c), shownLedger(got), b, ok)
			}
		}
	}
}

// P18.1: an entry of another Batch, Layer, Token or Rank alone is not that of the
// key, nor is one of the same numbers at other places.
func TestOtherKeys(t *testing.T) {
	numbers := []int{-1, 0, 1, 2, 3, 4, 5, 6, 7, 8, 9, most, most + 1, 1 << 32, 1<<32 + 5, math.MaxInt, math.MinInt}
	for at := range 4 {
		for _, n := range numbers {
			c := asked()
			k := key(c.a)
			field := []*int{&k.Batch, &k.Layer, &k.Token, &k.Rank}[at]
			if *field == n {
				continue
			}
			*field = n
			c.l = []ledger.Entry{{Key: k, Vec: []int{1, 1, 1}}}
			if got, b, ok := check(t, c); !ok || slices.Equal(b.Vec, c.l[0].Vec) || len(got) != 2 || got[1].Key != key(c.a) {
				t.Errorf("%s: %s, %+v, %t", shown(c), shownLedger(got), b, ok)
			}
		}
	}
	c := asked()
	c.a.Batch, c.a.Layer, c.a.Token, c.a.Rank = 0, 1, 2, 3
	c.l = nil
	for i := range 256 {
		k := ledger.Key{Batch: i / 64, Layer: i / 16 % 4, Token: i / 4 % 4, Rank: i % 4}
		if k != key(c.a) {
			c.l = append(c.l, ledger.Entry{Key: k, Vec: []int{i}})
		}
	}
	if got, b, ok := check(t, c); !ok || len(got) != 256 || !slices.Equal(b.Vec, wantExpert(c.m.Layers[1].Experts[3], c.a.Vec)) {
		t.Errorf("%s: %s, %+v, %t", shown(c), shownLedger(got), b, ok)
	}
}

// P18.1: what the expert of that Layer makes, and no other's, in models of each
// number of layers and experts.
func TestAnswersOfEachExpert(t *testing.T) {
	draw := mixed(181)
	for dim := 1; dim <= 8; dim++ {
		for _, experts := range [][]int{{1}, {8}, {2, 2}, {1, 8}, {3, 1, 2}, {2, 3, 4, 5}, {8, 8, 8, 8}} {
			m := made(100+dim, dim, experts...)
			for layer, many := range experts {
				for x := range many {
					c := asked()
					c.m, c.a.Layer, c.a.Expert, c.a.Vec = m, layer, x, draw.row(dim)
					c.p.Holders = slices.Repeat([][]int{{2, 3}}, 8)
					checkAnswer(t, "each expert", c)
				}
			}
		}
	}
}

// P18.1: each field of what is told, from one that no other field has.
func TestFields(t *testing.T) {
	if api.Ask != 1 || api.Answer != 2 || api.Stale != 3 {
		t.Errorf("the kinds: %d, %d, %d", api.Ask, api.Answer, api.Stale)
	}
	for _, stale := range []bool{false, true} {
		for i := range 9 {
			for _, n := range []int{0, 1, 2, 100, most - 1, most} {
				c := asked()
				c.l = nil
				if stale {
					c.p.Holders = [][]int{{1}}
				}
				field := fields(&c.a)[i]
				if field.name == "To" || field.name == "Layer" || field.name == "Expert" {
					continue
				}
				*field.at = n
				if field.name == "Epoch" {
					c.p.Epoch = n
				}
				_, b, ok := check(t, c)
				want := api.Msg{Kind: 2, From: 2, To: c.a.From, Seq: c.a.Seq, Batch: c.a.Batch, Layer: 1, Token: c.a.Token, Rank: c.a.Rank, Expert: 3, Epoch: c.p.Epoch, Vec: b.Vec}
				if stale {
					want.Kind, want.Vec = 3, nil
				}
				if !ok || !sameMsg(b, want) || !stale && len(b.Vec) != 3 {
					t.Errorf("%s %d: %+v, %t", field.name, n, b, ok)
				}
			}
		}
		for node := 1; node <= 4; node++ {
			c := asked()
			c.node, c.a.To = node, node
			if stale {
				c.a.Epoch = 0
			}
			if _, b, ok := check(t, c); !ok || b.From != node || b.To != 3 || b.Epoch != 9 {
				t.Errorf("the node %d: %+v, %t", node, b, ok)
			}
		}
	}
}

// P18.2: of one key one answer, whatever Vec and whatever Expert the others ask
// with, and whoever asks.
func TestOneAnswerOfAKey(t *testing.T) {
	draw := mixed(182)
	c := asked()
	c.a.Layer, c.p.Holders = 3, slices.Repeat([][]int{{2}}, 8)
	first, b, ok := check(t, c)
	if !ok || b.Kind != 2 || len(first) != 3 {
		t.Fatalf("asked: %v, %+v, %t", first, b, ok)
	}
	c.l = first
	for x := range 8 {
		for range 20 {
			c.a.Expert, c.a.Vec = x, draw.row(3)
			c.a.From, c.a.Seq = draw.next(5), draw.next(100)
			again, d, ok := check(t, c)
			if !ok || d.Kind != 2 || !slices.Equal(d.Vec, b.Vec) || d.Expert != x || d.Seq != c.a.Seq || d.To != c.a.From || !sameLedger(again, first) {
				t.Fatalf("asked with %+v: %v, %+v, %t", c.a, again, d, ok)
			}
			c.l = again
		}
	}
}

// P18.2: unlike keys are entered each, in the order in which they were asked.
func TestUnlikeKeys(t *testing.T) {
	c := asked()
	c.l = nil
	var want []ledger.Entry
	for round := range 2 {
		for i := range 81 {
			c.a.Batch, c.a.Layer, c.a.Token, c.a.Rank = i/27, i/9%3, i/3%3, i%3
			c.a.Expert, c.p.Holders = 0, [][]int{{2}}
			c.a.Vec = []int{i * one, -i * one, (round - 40) * one}
			l, b, ok := check(t, c)
			if !ok || b.Kind != 2 {
				t.Fatalf("%d: %+v, %t", i, b, ok)
			}
			if round == 0 {
				want = append(want, ledger.Entry{Key: key(c.a), Vec: b.Vec})
			}
			if !slices.Equal(b.Vec, want[i].Vec) || !sameLedger(l, want) {
				t.Fatalf("round %d, %d: %s, %+v, not %s", round, i, shownLedger(l), b, shownLedger(want))
			}
			c.l = l
		}
	}
}

// play hands a node, again and again, messages of few keys, from a ledger that it
// told itself, and holds what it says against a record of what was answered.
func play(t *testing.T, m api.Model, many int, draw *mixed) {
	t.Helper()
	record := map[ledger.Key][]int{}
	c := call{m: m, node: 1 + draw.next(4)}
	for range len(m.Layers[0].Experts) {
		c.p.Holders = append(c.p.Holders, lists()[draw.next(15)])
	}
	entered := 0
	for range many {
		c.a = draw.ask(c)
		if draw.next(10) == 0 {
			c.p.Epoch++
		}
		l, b, ok := check(t, c)
		if b.Kind == 2 {
			k := key(c.a)
			if row, there := record[k]; there && !slices.Equal(row, b.Vec) {
				t.Fatalf("%s: two answers: %v, %v", shown(c), row, b.Vec)
			} else if !there {
				record[k] = slices.Clone(b.Vec)
				entered++
			}
		}
		if len(l) != entered || !ok && b.Kind != 0 {
			t.Fatalf("%s: %d entries, not %d", shown(c), len(l), entered)
		}
		if c.l = l; ok && !wire.Right(b) {
			t.Fatalf("%s: no right message: %+v", shown(c), b)
		}
	}
	for _, e := range c.l {
		if !slices.Equal(record[e.Key], e.Vec) {
			t.Fatalf("the entry %v, not %v", e, record[e.Key])
		}
	}
}

// ask is a message for c, that is right, and most often one that is worked on.
func (m *mixed) ask(c call) api.Msg {
	a := api.Msg{Kind: 1, From: m.next(5), To: c.node, Seq: m.next(9), Batch: m.next(3), Layer: m.next(len(c.m.Layers)), Token: m.next(3), Rank: m.next(2), Epoch: c.p.Epoch}
	a.Expert = m.next(len(c.m.Layers[a.Layer].Experts))
	a.Vec = m.row(c.m.Dim)
	return a
}

// P18.2: whatever is asked, in whichever order, while the map turns.
func TestPlays(t *testing.T) {
	draw := mixed(183)
	for range 60 {
		play(t, draw.model(), 100, &draw)
	}
}

// ledger has up to 5 entries, of keys that are often those of a.
func (m *mixed) ledger(a api.Msg) []ledger.Entry {
	var l []ledger.Entry
	for range m.next(6) {
		k := key(a)
		if m.next(3) > 0 {
			at := []*int{&k.Batch, &k.Layer, &k.Token, &k.Rank}[m.next(4)]
			*at = m.of(-1, 0, 1, 2, *at+1, most, math.MinInt)
		}
		l = append(l, ledger.Entry{Key: k, Vec: m.row(m.next(4))})
	}
	return l
}

// call is one that is worked on, spoiled in no, one or two ways.
func (m *mixed) call() call {
	c := call{m: m.model(), node: 1 + m.next(4)}
	c.p.Epoch = m.of(0, 1, 7, m.next(most), most-1, most)
	for range m.next(4) + 5 {
		c.p.Holders = append(c.p.Holders, slices.Clone(lists()[m.next(15)]))
	}
	c.p.Holders = c.p.Holders[:min(8, len(c.p.Holders))]
	c.a = m.ask(c)
	c.l = m.ledger(c.a)
	for range max(0, m.next(5)-2) {
		m.spoil(&c)
	}
	return c
}

func (m *mixed) wild() int {
	return m.of(-1, 0, 1, 2, 3, 4, 5, 8, 9, most, most+1, -most, -most-1, -most-2, 1<<32, 1<<32+1, math.MaxInt, math.MinInt)
}

// spoil lays something else at one place of a call; it may still be right.
func (m *mixed) spoil(c *call) {
	l := &c.m.Layers[m.next(len(c.m.Layers))]
	switch m.next(14) {
	case 0:
		c.m.Dim = m.wild()
	case 1:
		l.Capacity = m.wild()
	case 2:
		l.Gate[m.next(len(l.Gate))] = m.row(m.next(10))
	case 3:
		l.Gate[m.next(len(l.Gate))][0] = m.wild()
	case 4:
		l.Experts = append(l.Experts, l.Experts[0])
	case 5:
		if x := &l.Experts[m.next(len(l.Experts))]; len(x.In) > 0 && len(x.In[0]) > 0 {
			x.In[0][0] = m.wild()
		}
	case 6:
		if x := &l.Experts[m.next(len(l.Experts))]; len(x.Out) > 0 {
			x.Out = x.Out[1:]
		}
	case 7:
		c.p.Epoch = m.wild()
	case 8:
		c.p.Holders[m.next(len(c.p.Holders))] = []int{m.next(7) - 1, m.next(7) - 1}[:m.next(3)]
	case 9:
		c.p.Holders = append(c.p.Holders, []int{1, 2, 3, 4})
	case 10:
		c.a.Vec = m.row(m.next(10))
	case 11:
		if len(c.a.Vec) > 0 {
			c.a.Vec[m.next(len(c.a.Vec))] = m.wild()
		}
	case 12:
		*[]*int{&c.a.Kind, &c.node, &c.a.To}[m.next(3)] = m.next(7) - 1
	default:
		*fields(&c.a)[m.next(9)].at = m.wild()
	}
}

// P18.1: drawn models, maps, ledgers and messages, right and not, against the
// chapter's words.
func TestDrawn(t *testing.T) {
	draw := mixed(1818)
	told := map[int]int{}
	there := 0
	for range 20000 {
		c := draw.call()
		l, b, _ := check(t, c)
		told[b.Kind]++
		if b.Kind == 2 && len(l) == len(c.l) {
			there++
		}
	}
	if len(told) != 3 || told[0] < 3000 || told[2] < 3000 || told[3] < 3000 || there < 1000 || told[2]-there < 1000 {
		t.Errorf("told: %v, %d of the ledger", told, there)
	}
}

// each goes through all numbers that c can reach, up to the end of its memory.
func (c call) each(do func(n *int)) {
	for i := range c.m.Layers[:cap(c.m.Layers)] {
		l := &c.m.Layers[:cap(c.m.Layers)][i]
		do(&l.Capacity)
		eachOfRows(l.Gate, do)
		for _, x := range l.Experts[:cap(l.Experts)] {
			eachOfRows(x.In, do)
			eachOfRows(x.Out, do)
		}
	}
	eachOfRows(c.p.Holders, do)
	eachOfLedger(c.l, do)
	eachOfRow(c.a.Vec, do)
}

func eachOfRow(row []int, do func(n *int)) {
	row = row[:cap(row)]
	for i := range row {
		do(&row[i])
	}
}

func eachOfRows(rows [][]int, do func(n *int)) {
	for _, row := range rows[:cap(rows)] {
		eachOfRow(row, do)
	}
}

func eachOfLedger(l []ledger.Entry, do func(n *int)) {
	l = l[:cap(l)]
	for i := range l {
		k := &l[i].Key
		for _, n := range []*int{&k.Batch, &k.Layer, &k.Token, &k.Rank} {
			do(n)
		}
		eachOfRow(l[i].Vec, do)
	}
}

// seen is all those numbers.
func (c call) seen() []int {
	var all []int
	c.each(func(n *int) { all = append(all, *n) })
	return all
}

func spoilNumber(n *int) { *n = -77777 }

// behind is l with room behind its last element, in which v stands.
func behind[T any](l []T, room int, v T) []T {
	roomy := make([]T, 0, len(l)+room)
	roomy = append(roomy, l...)
	for range room {
		roomy = append(roomy, v)
	}
	return roomy[:len(l)]
}

func behindRows(rows [][]int, room int) [][]int {
	roomy := make([][]int, len(rows))
	for i, row := range rows {
		roomy[i] = behind(row, room, -900)
	}
	return behind(roomy, room, []int{-901, -902})
}

// roomy is c, in memory of its own, with room behind each of its lists.
func roomy(c call, room int) call {
	c = c.apart()
	for i := range c.m.Layers {
		l := &c.m.Layers[i]
		l.Gate = behindRows(l.Gate, room)
		for k, x := range l.Experts {
			l.Experts[k] = api.Expert{In: behindRows(x.In, room), Out: behindRows(x.Out, room)}
		}
		l.Experts = behind(l.Experts, room, api.Expert{In: [][]int{{-903}}, Out: [][]int{{-904}}})
	}
	c.m.Layers = behind(c.m.Layers, room, api.Layer{Capacity: -905})
	c.p.Holders = behindRows(c.p.Holders, room)
	for i := range c.l {
		c.l[i].Vec = behind(c.l[i].Vec, room, -906)
	}
	// One of the key that is asked for, so that it would be found by whoever looks behind the end.
	c.l = behind(c.l, room, ledger.Entry{Key: key(c.a), Vec: []int{-907, -908}})
	c.a.Vec = behind(c.a.Vec, room, -909)
	return c
}

// some are calls of each kind, few of them.
func some() []call {
	draw := mixed(81)
	all := []call{asked(), {}}
	for _, l := range ledgersOf(asked()) {
		c, d := asked(), asked()
		c.l, d.l, d.a.Epoch = l, l, 8
		all = append(all, c, d)
	}
	for range 200 {
		all = append(all, draw.call())
	}
	return all
}

// R1: what is handed in stays as it is, up to the end of its memory, and an
// answer shares none of it: neither is changed by what is written into the
// other. R4: the room behind the lists counts not.
func TestWhatIsHandedInStays(t *testing.T) {
	for _, c := range some() {
		wantL, wantB, want := check(t, c.apart())
		for _, room := range []int{0, 1, 4} {
			handed := roomy(c, room)
			was := handed.seen()
			l, b, ok := handed.work()
			if ok != want || !sameMsg(b, wantB) || !sameLedger(l, wantL) {
				t.Fatalf("%s, room for %d: %s, %+v, %t", shown(c), room, shownLedger(l), b, ok)
			}
			if !slices.Equal(handed.seen(), was) {
				t.Fatalf("%s, room for %d: the memory is changed", shown(c), room)
			}
			handed.each(spoilNumber)
			if !sameMsg(b, wantB) || !sameLedger(l, wantL) {
				t.Fatalf("%s, room for %d: the answer changes with what was handed in", shown(c), room)
			}
			handed = roomy(c, room)
			l, b, _ = handed.work()
			eachOfLedger(l, spoilNumber)
			eachOfRow(b.Vec, spoilNumber)
			if !slices.Equal(handed.seen(), was) {
				t.Fatalf("%s, room for %d: what was handed in changes with the answer", shown(c), room)
			}
		}
	}
}

// R1: no two lists of an answer share memory, also where those that were handed
// in do.
func TestListsOfOneAnswer(t *testing.T) {
	calls := some()
	for _, epoch := range []int{8, 9} {
		c := asked()
		shared := append(make([]int, 0, 6), one, one, one)
		c.a.Vec, c.a.Epoch, c.l = shared, epoch, nil
		for i := range 4 {
			c.l = append(c.l, ledger.Entry{Key: ledger.Key{Batch: 4 + i, Layer: 1, Token: 6, Rank: 7}, Vec: shared})
		}
		calls = append(calls, c)
	}
	for _, c := range calls {
		l, b, _ := c.work()
		kept := copiedLedger(l)
		eachOfRow(b.Vec, spoilNumber)
		if !sameLedger(l, kept) {
			t.Fatalf("%s: the ledger changes with Vec", shown(c))
		}
		for i := range l {
			eachOfRow(l[i].Vec, spoilNumber)
			if !sameLedger(l[i+1:], kept[i+1:]) {
				t.Fatalf("%s: the entry %d shares memory", shown(c), i)
			}
		}
	}
}

// R1: an answer is left as it was by what later calls do.
func TestAnswersStay(t *testing.T) {
	for _, c := range some() {
		l, b, _ := check(t, c)
		keptL, keptB := copiedLedger(l), b
		keptB.Vec = slices.Clone(b.Vec)
		for _, d := range []call{c, {c.m, c.p, c.node, l, c.a}} {
			for rank := range 3 {
				d.a.Rank += rank
				m, e, _ := d.work()
				eachOfLedger(m, spoilNumber)
				eachOfRow(e.Vec, spoilNumber)
				if !sameLedger(l, keptL) || !sameMsg(b, keptB) {
					t.Fatalf("%s: the answer was changed by a later call", shown(c))
				}
			}
		}
	}
}

// P1: every call ends and none panics, at all arguments.
func TestAllArguments(t *testing.T) {
	models := []api.Model{
		{}, {Dim: -1}, {Dim: math.MaxInt}, {Dim: 3, Layers: make([]api.Layer, 4)}, {Dim: 3, Layers: make([]api.Layer, 1000)},
		{Dim: 1, Layers: []api.Layer{{Gate: [][]int{nil}, Experts: make([]api.Expert, 1), Capacity: 1}}}, asked().m,
	}
	maps := []place.Map{{}, {Epoch: math.MinInt}, {Holders: make([][]int, 8)}, {Holders: make([][]int, 900)}, {Holders: [][]int{make([]int, 900)}}, asked().p}
	for _, m := range models {
		for _, p := range maps {
			for _, n := range []int{math.MinInt, -1, 0, 1, 2, 3, 4, 5, 9, most, most + 1, math.MaxInt} {
				a := api.Msg{Kind: n, From: n, To: n, Seq: n, Batch: n, Layer: n, Token: n, Rank: n, Expert: n, Epoch: n, Vec: []int{n, n, n}}
				check(t, call{m, p, n, nil, a})
				a.Kind = 1
				check(t, call{m, p, n, []ledger.Entry{{Key: key(a), Vec: []int{n}}}, a})
				for i := range 9 {
					c := asked().apart()
					c.m, c.p = m, p
					*fields(&c.a)[i].at = n
					check(t, c)
					c.node = n
					check(t, c)
				}
			}
		}
	}
	check(t, call{})
	c := asked()
	c.a.Vec = make([]int, 1000000)
	check(t, c)
	c = asked()
	c.p.Holders = make([][]int, 1000000)
	check(t, c)
	c.p.Holders = [][]int{make([]int, 1000000)}
	check(t, c)
	c = asked()
	c.m.Layers[0].Gate[0] = make([]int, 1000000)
	check(t, c)
}

// P1: great ledgers have an answer as well.
func TestGreatLedgers(t *testing.T) {
	c := asked()
	c.l = make([]ledger.Entry, 20000)
	for i := range c.l {
		c.l[i] = ledger.Entry{Key: ledger.Key{Batch: 6 + i, Layer: 1, Token: 6, Rank: 7}, Vec: []int{i, i, i}}
	}
	if l, b, ok := check(t, c); !ok || b.Kind != 2 || len(l) != 20001 {
		t.Errorf("not there: %+v, %t", b, ok)
	}
	c.a.Batch = 20005
	if l, b, ok := check(t, c); !ok || !slices.Equal(b.Vec, []int{19999, 19999, 19999}) || len(l) != 20000 {
		t.Errorf("the last one: %+v, %t", b, ok)
	}
	c.a.Epoch = 10
	checkStale(t, "great", c)
	c.l = []ledger.Entry{{Key: key(c.a), Vec: make([]int, 1000000)}}
	c.a.Epoch = 9
	if _, b, ok := check(t, c); !ok || len(b.Vec) != 1000000 {
		t.Errorf("a great row: %d numbers, %t", len(b.Vec), ok)
	}
}

// FuzzWork draws a call from a seed, and reads from bytes what is laid over it: a
// field's place in one, and its number in eight.
func FuzzWork(f *testing.F) {
	f.Add(uint64(1), []byte{})
	f.Add(uint64(2), []byte{0, 1, 0, 0, 0, 0, 0, 0, 0})
	f.Add(uint64(18), []byte{3, 255, 255, 255, 255, 255, 255, 255, 255, 9, 5, 0, 0, 0, 0, 0, 0, 0})
	f.Add(uint64(1818), []byte{12, 0, 0, 0, 128, 255, 255, 255, 255, 11, 1, 0, 0, 0, 0, 0, 0, 0})
	f.Fuzz(func(t *testing.T, seed uint64, data []byte) {
		draw := mixed(seed)
		c := draw.call()
		for ; len(data) >= 9; data = data[9:] {
			n := int(int64(binary.LittleEndian.Uint64(data[1:])))
			at := []*int{&c.node, &c.p.Epoch, &c.a.Kind}
			for _, field := range fields(&c.a) {
				at = append(at, field.at)
			}
			for i := range c.a.Vec {
				at = append(at, &c.a.Vec[i])
			}
			*at[int(data[0])%len(at)] = n
		}
		if l, b, ok := check(t, c); ok {
			d := c
			d.l = l
			if m, e, _ := check(t, d); !sameLedger(m, l) || !sameMsg(e, b) {
				t.Fatalf("%s, asked twice: %s, %+v, not %s, %+v", shown(c), shownLedger(m), e, shownLedger(l), b)
			}
		}
		play(t, made(int(seed%1000), 1+int(seed%8), 1+int(seed%5), 1+int(seed%7)), 10, &draw)
	})
}
