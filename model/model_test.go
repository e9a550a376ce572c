package model

import (
	"fmt"
	"math"
	"math/big"
	"reflect"
	"slices"
	"testing"

	"switchboard/api"
	"switchboard/expert"
	"switchboard/gate"
	"switchboard/slots"
	"switchboard/vec"
)

const (
	one  = 65536
	half = 32768
	most = 2147483647
)

// edges are the numbers that are held and at which something turns: around 0,
// One and Top, on both sides.
func edges() []int {
	return []int{0, 1, -1, 2, -2, half, -half, one - 1, 1 - one, one, -one, one + 1, -one - 1, 3 * one, -3 * one, most - 1, 1 - most, most, -most}
}

// beyond are those that are not held.
func beyond() []int {
	return []int{
		most + 1, -most - 1, most + 2, -most - 2, 1 << 32, -1 << 32, 1<<32 + 1, 1 << 40, -1 << 40,
		math.MaxInt - 1, math.MinInt + 1, math.MaxInt, math.MinInt,
	}
}

// mixed gives numbers that are always the same ones for a seed.
type mixed uint64

func (m *mixed) next(below int) int {
	*m = *m*6364136223846793005 + 1442695040888963407
	return int(uint64(*m)>>33) % below
}

// number is held: small, around One, an edge, or anything up to Top.
func (m *mixed) number() int {
	switch m.next(5) {
	case 0:
		return m.next(21) - 10
	case 1:
		return (m.next(9)-4)*one + m.next(5) - 2
	case 2:
		return edges()[m.next(len(edges()))]
	case 3:
		return m.next(2*one) - one
	}
	return m.next(most) - m.next(most)
}

// wild is a number that may not be held.
func (m *mixed) wild() int {
	if m.next(3) > 0 {
		return m.number()
	}
	return beyond()[m.next(len(beyond()))]
}

func (m *mixed) row(many int) []int {
	l := make([]int, many)
	for i := range l {
		l[i] = m.number()
	}
	return l
}

func (m *mixed) rows(many, long int) [][]int {
	l := make([][]int, many)
	for i := range l {
		l[i] = m.row(long)
	}
	return l
}

func (m *mixed) expert(dim int) api.Expert {
	inner := 1 + m.next(8)
	return api.Expert{In: m.rows(inner, dim), Out: m.rows(dim, inner)}
}

func (m *mixed) layer(dim, experts, capacity int) api.Layer {
	l := api.Layer{Gate: m.rows(experts, dim), Capacity: capacity}
	for range experts {
		l.Experts = append(l.Experts, m.expert(dim))
	}
	return l
}

// made is a right model, of as many experts in each of its layers.
func made(seed, dim, layers, experts, capacity int) api.Model {
	m := mixed(seed)
	all := api.Model{Dim: dim}
	for range layers {
		all.Layers = append(all.Layers, m.layer(dim, experts, capacity))
	}
	return all
}

// drawn is a right model, whose layers are unlike.
func (m *mixed) drawn() api.Model {
	all := api.Model{Dim: 1 + m.next(8)}
	for range 1 + m.next(4) {
		capacity := 1 + m.next(32)
		if m.next(2) == 0 {
			capacity = 1 + m.next(4)
		}
		all.Layers = append(all.Layers, m.layer(all.Dim, 1+m.next(8), capacity))
	}
	return all
}

// tokens are right ones; some of them are the same.
func (m *mixed) tokens(dim int) [][]int {
	l := m.rows(1+m.next(16), dim)
	for range m.next(6) {
		copy(l[m.next(len(l))], l[m.next(len(l))])
	}
	return l
}

// line is an expert of tokens of one number: k times what is above 0.
func line(k int) api.Expert {
	return api.Expert{In: [][]int{{one}}, Out: [][]int{{k}}}
}

// lines is a layer of such experts, by what scores they have, of the token One.
func lines(capacity int, scores []int, ks ...int) api.Layer {
	l := api.Layer{Gate: column(scores...), Capacity: capacity}
	for _, k := range ks {
		l.Experts = append(l.Experts, line(k))
	}
	return l
}

// column is rows of one number each.
func column(numbers ...int) [][]int {
	l := make([][]int, len(numbers))
	for i, n := range numbers {
		l[i] = []int{n}
	}
	return l
}

func copiedRows(rows [][]int) [][]int {
	l := slices.Clone(rows)
	for i := range l {
		l[i] = slices.Clone(l[i])
	}
	return l
}

func copiedLayer(l api.Layer) api.Layer {
	other := api.Layer{Gate: copiedRows(l.Gate), Experts: slices.Clone(l.Experts), Capacity: l.Capacity}
	for i, x := range other.Experts {
		other.Experts[i] = api.Expert{In: copiedRows(x.In), Out: copiedRows(x.Out)}
	}
	return other
}

func copied(m api.Model) api.Model {
	other := api.Model{Dim: m.Dim, Layers: slices.Clone(m.Layers)}
	for i, l := range other.Layers {
		other.Layers[i] = copiedLayer(l)
	}
	return other
}

func same(a, b [][]int) bool {
	return slices.EqualFunc(a, b, slices.Equal)
}

// shown keeps what a test says short.
func shown(x any) string {
	return fmt.Sprintf("%.400s", fmt.Sprintf("%+v", x))
}

// held, times and what is wanted by them don't call the layers below.
func held(n int) int {
	return max(-most, min(most, n))
}

func plus(a, b int) int {
	return held(held(a) + held(b))
}

func times(a, b int) int {
	p := new(big.Int).Mul(big.NewInt(int64(held(a))), big.NewInt(int64(held(b))))
	return held(int(p.Quo(p, big.NewInt(one)).Int64()))
}

func wantDot(row, v []int) int {
	sum := 0
	for i := range row {
		sum = plus(sum, times(row[i], v[i]))
	}
	return sum
}

func wantShares(a, b int) (int, int) {
	x, y := max(a, 0)+1, max(b, 0)+1
	return x * one / (x + y), one - x*one/(x+y)
}

func wantExpert(x api.Expert, v []int) []int {
	var inner, out []int
	for _, row := range x.In {
		inner = append(inner, max(wantDot(row, v), 0))
	}
	for _, row := range x.Out {
		out = append(out, wantDot(row, inner))
	}
	return out
}

// wrongRows counts the rows that are not of so many numbers that are held.
func wrongRows(rows [][]int, long int) int {
	wrong := 0
	for _, row := range rows {
		bad := len(row) != long
		for _, n := range row {
			bad = bad || n < -most || n > most
		}
		if bad {
			wrong++
		}
	}
	return wrong
}

func notFrom1To(n, high int) int {
	if n < 1 || n > high {
		return 1
	}
	return 0
}

// wantRight is the chapter's words of a right model: it counts all that is
// wrong, and does not stop at what is first.
func wantRight(m api.Model) bool {
	wrong := notFrom1To(m.Dim, 8) + notFrom1To(len(m.Layers), 4)
	for _, l := range m.Layers {
		wrong += notFrom1To(len(l.Experts), 8) + notFrom1To(l.Capacity, 32) + wrongRows(l.Gate, m.Dim)
		if len(l.Gate) != len(l.Experts) {
			wrong++
		}
		for _, x := range l.Experts {
			wrong += notFrom1To(len(x.In), 8) + wrongRows(x.In, m.Dim) + wrongRows(x.Out, len(x.In))
			if len(x.Out) != m.Dim {
				wrong++
			}
		}
	}
	return wrong == 0
}

func wantTokens(m api.Model, tokens [][]int) bool {
	return notFrom1To(len(tokens), 16)+wrongRows(tokens, m.Dim) == 0
}

// wantChosen is who is first and second, by places that are sorted by their
// scores, and their shares.
func wantChosen(l api.Layer, token []int) (places, shares []int) {
	var scores []int
	for i, row := range l.Gate {
		scores, places = append(scores, wantDot(row, token)), append(places, i)
	}
	if len(places) == 1 {
		return places, []int{one}
	}
	slices.SortStableFunc(places, func(a, b int) int { return scores[b] - scores[a] })
	first, second := wantShares(scores[places[0]], scores[places[1]])
	return places[:2], []int{first, second}
}

// wantParts goes, for each part, through all that are ahead of it.
func wantParts(l api.Layer, tokens [][]int) []Part {
	var all []Part
	for t, token := range tokens {
		places, shares := wantChosen(l, token)
		for rank, x := range places {
			ahead := 0
			for _, p := range all {
				if p.Expert == x {
					ahead++
				}
			}
			if ahead < l.Capacity {
				all = append(all, Part{t, rank, x, shares[rank]})
			}
		}
	}
	return all
}

// wantCombine goes, for each token, through all parts.
func wantCombine(tokens [][]int, parts []Part, answers [][]int) [][]int {
	all := make([][]int, len(tokens))
	for t := range tokens {
		all[t] = append(all[t], tokens[t]...)
		for i, p := range parts {
			if p.Token != t || i >= len(answers) || len(answers[i]) != len(tokens[t]) {
				continue
			}
			for j, n := range answers[i] {
				all[t][j] = plus(all[t][j], times(n, p.Weight))
			}
		}
	}
	return all
}

func wantForward(m api.Model, tokens [][]int) ([][]int, int) {
	if !wantRight(m) || !wantTokens(m, tokens) {
		return nil, 1
	}
	for _, l := range m.Layers {
		parts := wantParts(l, tokens)
		var answers [][]int
		for _, p := range parts {
			answers = append(answers, wantExpert(l.Experts[p.Expert], tokens[p.Token]))
		}
		tokens = wantCombine(tokens, parts, answers)
	}
	return tokens, 0
}

// checkRight holds a call against the chapter, twice, and what was handed in
// against what it was; so do the others.
func checkRight(t *testing.T, m api.Model) bool {
	t.Helper()
	was, want := copied(m), wantRight(m)
	for range 2 {
		if got := Right(m); got != want {
			t.Fatalf("Right(%s): %t", shown(was), got)
		}
	}
	if !reflect.DeepEqual(m, was) {
		t.Fatalf("Right(%s) changed it to %s", shown(was), shown(m))
	}
	return want
}

func checkTokens(t *testing.T, m api.Model, tokens [][]int) bool {
	t.Helper()
	model, was, want := copied(m), copiedRows(tokens), wantTokens(m, tokens)
	for range 2 {
		if got := Tokens(m, tokens); got != want {
			t.Fatalf("Tokens of Dim %d, %s: %t", m.Dim, shown(was), got)
		}
	}
	if !reflect.DeepEqual(m, model) || !reflect.DeepEqual(tokens, was) {
		t.Fatalf("Tokens of Dim %d, %s, changed what it was handed", m.Dim, shown(was))
	}
	return want
}

// checkParts is P15.1, of a right model's layer and right tokens.
func checkParts(t *testing.T, l api.Layer, tokens [][]int) []Part {
	t.Helper()
	layer, was, want := copiedLayer(l), copiedRows(tokens), wantParts(l, tokens)
	for range 2 {
		if got := Parts(l, tokens); !slices.Equal(got, want) {
			t.Fatalf("Parts(%s, %s): %v, not %v", shown(layer), shown(was), got, want)
		}
	}
	if !reflect.DeepEqual(l, layer) || !reflect.DeepEqual(tokens, was) {
		t.Fatalf("Parts(%s, %s) changed what it was handed", shown(layer), shown(was))
	}
	checkOrder(t, l, tokens, want)
	return want
}

// checkOrder tells by the parts, and by layers 13 and 14, that they are in the
// order of tokens and ranks, each once, and that no expert has too many.
func checkOrder(t *testing.T, l api.Layer, tokens [][]int, parts []Part) {
	t.Helper()
	many, last := make([]int, len(l.Experts)), -1
	var experts [][2]int
	for _, token := range tokens {
		c, _ := gate.Choose(l.Gate, token)
		experts = append(experts, [2]int{c.First, c.Second})
	}
	given := slots.Assign(experts, len(l.Experts), l.Capacity)
	for _, p := range parts {
		at := 2*p.Token + p.Rank
		if p.Rank < 0 || p.Rank > 1 || at <= last || p.Token >= len(tokens) {
			t.Fatalf("Parts(%s, %s): %v: not in order", shown(l), shown(tokens), parts)
		}
		last = at
		if many[p.Expert]++; many[p.Expert] > l.Capacity {
			t.Fatalf("Parts(%s, %s): %v: too many of the expert %d", shown(l), shown(tokens), parts, p.Expert)
		}
		c, ok := gate.Choose(l.Gate, tokens[p.Token])
		if want := [2]int{c.W1, c.W2}; !ok || p.Weight != want[p.Rank] || p.Expert != experts[p.Token][p.Rank] {
			t.Fatalf("Parts(%s, %s): %v, but layer 13 chooses %+v", shown(l), shown(tokens), p, c)
		}
		if given[p.Token][p.Rank] < 0 {
			t.Fatalf("Parts(%s, %s): %v, but layer 14 gives it no slot", shown(l), shown(tokens), p)
		}
		given[p.Token][p.Rank] = -1
	}
	for token, slot := range given {
		if slot != [2]int{-1, -1} {
			t.Fatalf("Parts(%s, %s): %v: none of the token %d, of the slots %v", shown(l), shown(tokens), parts, token, slot)
		}
	}
}

// checkCombine is P15.2, also by layer 2.
func checkCombine(t *testing.T, tokens [][]int, parts []Part, answers [][]int) [][]int {
	t.Helper()
	was, listed, answered, want := copiedRows(tokens), slices.Clone(parts), copiedRows(answers), wantCombine(tokens, parts, answers)
	for range 2 {
		if got := Combine(tokens, parts, answers); !same(got, want) {
			t.Fatalf("Combine(%s, %s, %s): %s, not %s", shown(was), shown(listed), shown(answered), shown(got), shown(want))
		}
	}
	if !reflect.DeepEqual(tokens, was) || !slices.Equal(parts, listed) || !reflect.DeepEqual(answers, answered) {
		t.Fatalf("Combine(%s, %s, %s) changed what it was handed", shown(was), shown(listed), shown(answered))
	}
	for at, sum := range was {
		for i := range min(len(listed), len(answered)) {
			if more, ok := vec.Add(sum, vec.Scale(answered[i], listed[i].Weight)); ok && listed[i].Token == at {
				sum = more
			}
		}
		if !slices.Equal(sum, want[at]) {
			t.Fatalf("Combine(%s, %s, %s): %s, but by layer 2 %d is %v", shown(was), shown(listed), shown(answered), shown(want), at, sum)
		}
	}
	return want
}

// checkForward is P15.2, at all models and tokens, and by Parts, layer 11 and
// Combine.
func checkForward(t *testing.T, m api.Model, tokens [][]int) [][]int {
	t.Helper()
	model, was := copied(m), copiedRows(tokens)
	want, errno := wantForward(m, tokens)
	for range 2 {
		got, e := Forward(m, tokens)
		if !same(got, want) || int(e) != errno {
			t.Fatalf("Forward(%s, %s): %s, %d, not %s, %d", shown(model), shown(was), shown(got), e, shown(want), errno)
		}
	}
	if !reflect.DeepEqual(m, model) || !reflect.DeepEqual(tokens, was) {
		t.Fatalf("Forward(%s, %s) changed what it was handed", shown(model), shown(was))
	}
	if errno != 0 {
		return nil
	}
	made := was
	for _, l := range m.Layers {
		parts := checkParts(t, l, made)
		answers := make([][]int, len(parts))
		for i, p := range parts {
			answers[i], _ = expert.Run(l.Experts[p.Expert], made[p.Token])
		}
		made = checkCombine(t, made, parts, answers)
	}
	if !same(made, want) || wrongRows(made, m.Dim) > 0 || len(made) != len(tokens) {
		t.Fatalf("Forward(%s, %s): %s, but layer by layer %s", shown(model), shown(was), shown(want), shown(made))
	}
	return want
}

// P15.2: the chapter's example, of 1 as a number and as One, and the limits.
func TestExample(t *testing.T) {
	m := api.Model{Dim: 1, Layers: []api.Layer{lines(1, []int{0}, one)}}
	for _, n := range []int{1, one} {
		if got, e := Forward(m, column(n)); e != 0 || !same(got, column(2*n)) {
			t.Errorf("Forward of %d: %v, %d", n, got, e)
		}
	}
	if api.One != one || api.Top != most || api.MaxDim != 8 || api.MaxTokens != 16 || api.MaxExperts != 8 || api.MaxLayers != 4 || api.OK != 0 || api.ErrArg != 1 {
		t.Errorf("the limits: %d, %d, %d, %d, %d, %d, %d, %d", api.One, api.Top, api.MaxDim, api.MaxTokens, api.MaxExperts, api.MaxLayers, api.OK, api.ErrArg)
	}
}

// expectRight holds Right, and Forward of it, against what is written out.
func expectRight(t *testing.T, m api.Model, want bool, what string) {
	t.Helper()
	if got := Right(m); got != want {
		t.Errorf("Right, %s: %t", what, got)
	}
	if checkRight(t, m) != want {
		t.Errorf("%s: the test takes it as %t", what, !want)
	}
	tokens := [][]int{make([]int, max(0, min(m.Dim, 100)))}
	got, e := Forward(m, tokens)
	if want && (e != 0 || len(got) != 1) || !want && (e != 1 || len(got) != 0) {
		t.Errorf("Forward, %s: %v, %d", what, got, e)
	}
}

// P15.1: Dim, wrong on either side, and right, with layers for it.
func TestRightDim(t *testing.T) {
	for dim := range 12 {
		expectRight(t, made(dim, dim, 2, 3, 4), dim >= 1 && dim <= 8, fmt.Sprint("all of Dim ", dim))
		for _, other := range []int{dim - 1, dim + 1, -dim, 0, 1, 8, 9, math.MinInt, math.MaxInt, 1<<32 + dim, 1<<8 + dim} {
			if other != dim {
				m := made(dim, dim, 2, 3, 4)
				m.Dim = other
				expectRight(t, m, false, fmt.Sprint("Dim ", other, ", all else of ", dim))
			}
		}
	}
}

// P15.1: how many layers there are.
func TestRightLayers(t *testing.T) {
	for layers := range 7 {
		expectRight(t, made(layers, 2, layers, 2, 2), layers >= 1 && layers <= 4, fmt.Sprint(layers, " layers"))
	}
	expectRight(t, api.Model{Dim: 1}, false, "nil layers")
	expectRight(t, api.Model{Dim: 1, Layers: []api.Layer{}}, false, "empty layers")
	expectRight(t, api.Model{}, false, "nothing")
	expectRight(t, api.Model{Dim: 1, Layers: make([]api.Layer, 1)}, false, "a layer of nothing")
	expectRight(t, made(1, 1, 256+1, 1, 1), false, "257 layers")
}

// atLayers hands to change each layer, alone, of models of 1 to 4 layers.
func atLayers(t *testing.T, dim, experts int, want bool, what string, change func(l *api.Layer)) {
	t.Helper()
	for layers := 1; layers <= 4; layers++ {
		for at := range layers {
			m := made(layers, dim, layers, experts, 5)
			expectRight(t, m, true, "ahead of "+what)
			change(&m.Layers[at])
			expectRight(t, m, want, fmt.Sprint(what, ", at the layer ", at, " of ", layers))
		}
	}
}

// P15.1: how many experts a layer has, with a Gate for them, and without.
func TestRightExperts(t *testing.T) {
	for experts := range 12 {
		m := mixed(experts)
		other := m.layer(2, experts, 5)
		atLayers(t, 2, 3, experts >= 1 && experts <= 8, fmt.Sprint(experts, " experts"), func(l *api.Layer) { *l = other })
		atLayers(t, 2, 3, experts == 3, fmt.Sprint(experts, " experts, a Gate of 3"), func(l *api.Layer) { l.Experts = other.Experts })
	}
	atLayers(t, 2, 3, false, "nil experts", func(l *api.Layer) { l.Experts = nil })
	atLayers(t, 2, 3, false, "empty experts and no Gate", func(l *api.Layer) { l.Experts, l.Gate = []api.Expert{}, [][]int{} })
}

// wrongExperts are such of tokens of dim numbers.
func wrongExperts(dim int) map[string]api.Expert {
	all := map[string]api.Expert{"nothing": {}, "of another Dim, 1 more": expertOf(dim+1, 2), "of another Dim, 1 less": expertOf(dim-1, 2), "of no In": expertOf(dim, 0), "of 9 rows of In": expertOf(dim, 9)}
	spoil := func(what string, change func(x *api.Expert)) {
		x := expertOf(dim, 3)
		change(&x)
		all[what] = x
	}
	spoil("without Out", func(x *api.Expert) { x.Out = nil })
	spoil("with a row of Out too many", func(x *api.Expert) { x.Out = append(x.Out, x.Out[0]) })
	spoil("with a row of Out too few", func(x *api.Expert) { x.Out = x.Out[1:] })
	spoil("with a short row of In", func(x *api.Expert) { x.In[2] = x.In[2][1:] })
	spoil("with a long row of Out", func(x *api.Expert) { x.Out[0] = append(x.Out[0], 0) })
	for _, n := range beyond() {
		spoil(fmt.Sprint("with ", n, " in its In"), func(x *api.Expert) { x.In[2][dim-1] = n })
		spoil(fmt.Sprint("with ", n, " in its Out"), func(x *api.Expert) { x.Out[dim-1][2] = n })
	}
	return all
}

func expertOf(dim, inner int) api.Expert {
	m := mixed(dim + 10*inner)
	return api.Expert{In: m.rows(inner, dim), Out: m.rows(dim, inner)}
}

// P15.1: one expert alone that is not right, wherever it stands.
func TestRightEachExpert(t *testing.T) {
	for _, dim := range []int{1, 2, 8} {
		for what, x := range wrongExperts(dim) {
			if expert.Right(x, dim) {
				t.Errorf("an expert %s is right", what)
			}
			for _, experts := range []int{1, 2, 8} {
				for at := range experts {
					atLayers(t, dim, experts, false, fmt.Sprint("an expert ", what, ", at ", at), func(l *api.Layer) { l.Experts[at] = x })
				}
			}
		}
		for _, n := range edges() {
			atLayers(t, dim, 3, true, fmt.Sprint(n, " in an expert"), func(l *api.Layer) { l.Experts[2].In[0][0], l.Experts[0].Out[dim-1][0] = n, n })
		}
	}
}

// P15.1: a Gate of too few or too many rows, of a row that is unlike, and of a
// number beyond Top.
func TestRightGate(t *testing.T) {
	for _, dim := range []int{1, 2, 8} {
		for _, experts := range []int{1, 2, 8} {
			m := mixed(dim)
			atLayers(t, dim, experts, false, "no Gate", func(l *api.Layer) { l.Gate = nil })
			atLayers(t, dim, experts, false, "a row too few", func(l *api.Layer) { l.Gate = l.Gate[1:] })
			atLayers(t, dim, experts, false, "a row too many", func(l *api.Layer) { l.Gate = append(l.Gate, m.row(dim)) })
			for at := range experts {
				atLayers(t, dim, experts, false, "a short row", func(l *api.Layer) { l.Gate[at] = l.Gate[at][1:] })
				atLayers(t, dim, experts, false, "a long row", func(l *api.Layer) { l.Gate[at] = append(l.Gate[at], 0) })
				atLayers(t, dim, experts, false, "a nil row", func(l *api.Layer) { l.Gate[at] = nil })
				for _, n := range beyond() {
					atLayers(t, dim, experts, false, fmt.Sprint(n, " in the Gate"), func(l *api.Layer) { l.Gate[at][dim-1] = n })
					atLayers(t, dim, experts, false, fmt.Sprint(n, " in the Gate"), func(l *api.Layer) { l.Gate[at][0] = n })
				}
			}
			for _, n := range edges() {
				atLayers(t, dim, experts, true, fmt.Sprint(n, " in the Gate"), func(l *api.Layer) { l.Gate[experts-1][dim-1] = n })
			}
		}
	}
	// As many numbers, but columns and rows the other way round.
	atLayers(t, 2, 3, false, "a Gate that is turned", func(l *api.Layer) { l.Gate = [][]int{{1, 2, 3}, {4, 5, 6}} })
}

// P15.1: Capacity.
func TestRightCapacity(t *testing.T) {
	for capacity := -3; capacity < 40; capacity++ {
		atLayers(t, 2, 2, capacity >= 1 && capacity <= 32, fmt.Sprint("Capacity ", capacity), func(l *api.Layer) { l.Capacity = capacity })
	}
	for _, capacity := range []int{64, 257, 1<<16 + 1, 1<<32 + 1, 1<<32 + 32, -1 << 32, most, math.MaxInt, math.MinInt, math.MinInt + 1, -32} {
		atLayers(t, 2, 2, false, fmt.Sprint("Capacity ", capacity), func(l *api.Layer) { l.Capacity = capacity })
	}
}

// P15.1: layers may be unlike.
func TestRightUnlikeLayers(t *testing.T) {
	m := mixed(3)
	all := api.Model{Dim: 3, Layers: []api.Layer{m.layer(3, 8, 1), m.layer(3, 1, 32), m.layer(3, 4, 7), m.layer(3, 2, 2)}}
	expectRight(t, all, true, "unlike layers")
	all.Layers[1], all.Layers[2] = all.Layers[2], m.layer(4, 1, 32)
	expectRight(t, all, false, "a layer of another Dim")
}

// expectTokens holds Tokens, and Forward of them, against what is written out.
func expectTokens(t *testing.T, m api.Model, tokens [][]int, want bool, what string) {
	t.Helper()
	if got := Tokens(m, tokens); got != want {
		t.Errorf("Tokens, %s: %t", what, got)
	}
	if checkTokens(t, m, tokens) != want {
		t.Errorf("%s: the test takes them as %t", what, !want)
	}
	got, e := Forward(m, tokens)
	if want && (e != 0 || len(got) != len(tokens)) || !want && (e != 1 || len(got) != 0) {
		t.Errorf("Forward, %s: %v, %d", what, got, e)
	}
}

// P15.1: how many tokens there are.
func TestTokensMany(t *testing.T) {
	for dim := 1; dim <= 8; dim++ {
		model, m := made(dim, dim, 2, 3, 4), mixed(dim)
		for many := range 20 {
			expectTokens(t, model, m.rows(many, dim), many >= 1 && many <= 16, fmt.Sprint(many, " of them"))
		}
		expectTokens(t, model, nil, false, "nil")
		expectTokens(t, model, [][]int{}, false, "empty")
		expectTokens(t, model, m.rows(5, dim)[:0], false, "empty, with room behind")
		expectTokens(t, model, m.rows(256+3, dim), false, "259 of them")
	}
}

// P15.1: one token alone that is too short, too long, or of a number that is
// not held, wherever it stands.
func TestTokensEach(t *testing.T) {
	for dim := 1; dim <= 8; dim++ {
		model := made(dim, dim, 2, 3, 4)
		for _, many := range []int{1, 2, 16} {
			for at := range many {
				changed := func(want bool, what string, change func(token []int) []int) {
					m := mixed(many)
					l := m.rows(many, dim)
					expectTokens(t, model, l, true, "ahead of "+what)
					l[at] = change(l[at])
					expectTokens(t, model, l, want, fmt.Sprint(what, ", at ", at))
				}
				changed(false, "a short one", func(token []int) []int { return token[:dim-1] })
				changed(false, "a long one", func(token []int) []int { return append(token, 0) })
				changed(false, "a nil one", func([]int) []int { return nil })
				changed(false, "an empty one", func([]int) []int { return []int{} })
				for _, place := range []int{0, dim / 2, dim - 1} {
					number := func(n int) func(token []int) []int {
						return func(token []int) []int { token[place] = n; return token }
					}
					for _, n := range beyond() {
						changed(false, fmt.Sprint("a number ", n), number(n))
					}
					for _, n := range []int{most, -most, most - 1, 1 - most, 0} {
						changed(true, fmt.Sprint("a number ", n), number(n))
					}
				}
			}
		}
	}
}

// P15.1: Dim alone is asked of the model.
func TestTokensOfModelsThatAreWrong(t *testing.T) {
	for dim := range 12 {
		m := mixed(dim)
		for _, model := range []api.Model{{Dim: dim}, {Dim: dim, Layers: []api.Layer{}}, made(dim, 3, 5, 9, 0)} {
			model.Dim = dim
			for _, many := range []int{0, 1, 2, 16, 17} {
				checkTokens(t, model, m.rows(many, dim))
				checkTokens(t, model, m.rows(many, dim+1))
			}
		}
	}
	for _, dim := range []int{-1, -8, math.MinInt, math.MaxInt, 1 << 32, 1<<32 + 1} {
		for _, tokens := range [][][]int{nil, {}, {{}}, {nil}, {{1}}, make([][]int, 17)} {
			if checkTokens(t, api.Model{Dim: dim}, tokens) {
				t.Errorf("Tokens of Dim %d, %v", dim, tokens)
			}
		}
	}
}

// expectParts holds Parts of a layer of one number against what is written out.
func expectParts(t *testing.T, l api.Layer, tokens [][]int, want ...Part) {
	t.Helper()
	if got := Parts(l, tokens); !slices.Equal(got, want) {
		t.Errorf("Parts(%s, %v): %v, not %v", shown(l), tokens, got, want)
	}
	checkParts(t, l, tokens)
}

// P15.1: one expert alone has all of One, at rank 0, whatever its score is.
func TestPartsOneExpert(t *testing.T) {
	for _, score := range edges() {
		for _, n := range edges() {
			l := lines(2, []int{score}, one)
			expectParts(t, l, column(n), Part{0, 0, 0, one})
			expectParts(t, l, column(n, 5), Part{0, 0, 0, one}, Part{1, 0, 0, one})
			expectParts(t, l, column(n, 5, n, -n), Part{0, 0, 0, one}, Part{1, 0, 0, one})
		}
	}
	l := lines(32, []int{7}, one)
	var want []Part
	for at := range 16 {
		want = append(want, Part{at, 0, 0, one})
	}
	expectParts(t, l, slices.Repeat(column(1), 16), want...)
}

// P15.1: who has which part, written out. Of the token One each number of the
// Gate is its expert's score.
func TestPartsWrittenOut(t *testing.T) {
	twice, thrice := column(one, one), column(one, one, one)
	// Two experts: the greater one first, whichever place it has.
	expectParts(t, lines(1, []int{2, 0}, 1, 1), column(one), Part{0, 0, 0, 49152}, Part{0, 1, 1, 16384})
	expectParts(t, lines(1, []int{0, 2}, 1, 1), column(one), Part{0, 0, 1, 49152}, Part{0, 1, 0, 16384})
	// More: two of them alone, and the token turns which.
	expectParts(t, lines(9, []int{0, 2, -5, 8}, 1, 1, 1, 1), column(one), Part{0, 0, 3, 49152}, Part{0, 1, 1, 16384})
	expectParts(t, lines(9, []int{0, 2, -2, -8}, 1, 1, 1, 1), column(one, -one), Part{0, 0, 1, 49152}, Part{0, 1, 0, 16384}, Part{1, 0, 3, 49152}, Part{1, 1, 2, 16384})
	// The same scores: the first ones, half each.
	expectParts(t, lines(2, []int{5, 5}, 1, 1), column(one), Part{0, 0, 0, half}, Part{0, 1, 1, half})
	expectParts(t, lines(2, []int{0, 5, 5, 5}, 1, 1, 1, 1), twice, Part{0, 0, 1, half}, Part{0, 1, 2, half}, Part{1, 0, 1, half}, Part{1, 1, 2, half})
	expectParts(t, lines(2, []int{2, 8, 2}, 1, 1, 1), column(one, 0), Part{0, 0, 1, 49152}, Part{0, 1, 0, 16384}, Part{1, 0, 0, half}, Part{1, 1, 1, half})
	// Capacity 1, the same choice: the tokens behind have none at all.
	expectParts(t, lines(1, []int{2, 0}, 1, 1), thrice, Part{0, 0, 0, 49152}, Part{0, 1, 1, 16384})
	// Capacity 2: the third has none.
	expectParts(t, lines(2, []int{2, 0}, 1, 1), thrice, Part{0, 0, 0, 49152}, Part{0, 1, 1, 16384}, Part{1, 0, 0, 49152}, Part{1, 1, 1, 16384})
	// The first has a slot, the second has none; and then none at all.
	expectParts(t, lines(1, []int{2, 0, -6}, 1, 1, 1), column(one, -one, one), Part{0, 0, 0, 49152}, Part{0, 1, 1, 16384}, Part{1, 0, 2, 57344})
	expectParts(t, lines(1, []int{0, 2, -2}, 1, 1, 1), column(one, -one, 0), Part{0, 0, 1, 49152}, Part{0, 1, 0, 16384}, Part{1, 0, 2, 49152})
	// The first has no slot, the second has one; and then none at all.
	turned := api.Layer{Gate: [][]int{{one, 0}, {0, one}, {0, 0}}, Experts: make([]api.Expert, 3), Capacity: 1}
	expectParts(t, turned, [][]int{{2, 0}, {2, -1}, {0, 2}}, Part{0, 0, 0, 49152}, Part{0, 1, 1, 16384}, Part{1, 1, 2, 16384})
	expectParts(t, turned, [][]int{{2, -1}, {2, 1}, {0, 2}, {-1, 2}}, Part{0, 0, 0, 49152}, Part{0, 1, 2, 16384}, Part{1, 1, 1, 26215})
	// The least share that there is.
	expectParts(t, lines(1, []int{most, -most}, 1, 1), column(one), Part{0, 0, 0, 65535}, Part{0, 1, 1, 1})
}

// P15.1: all few gates, tokens and capacities.
func TestPartsAllFew(t *testing.T) {
	numbers := []int{-one, 0, 2, one}
	for _, a := range numbers {
		for _, b := range numbers {
			for _, c := range numbers {
				for _, tokens := range [][][]int{column(1), column(one, -one), column(one, 0, -one), column(-3, one, one, -one, 1)} {
					for capacity := 1; capacity <= 4; capacity++ {
						checkParts(t, lines(capacity, []int{a}, 1), tokens)
						checkParts(t, lines(capacity, []int{a, b}, 1, 1), tokens)
						checkParts(t, lines(capacity, []int{a, b, c}, 1, 1, 1), tokens)
						checkParts(t, lines(capacity, []int{a, b, c, a}, 1, 1, 1, 1), tokens)
					}
				}
			}
		}
	}
}

// P15.1: layers and tokens that are drawn, with little room and much.
func TestPartsDrawn(t *testing.T) {
	for seed := range 400 {
		m := mixed(seed)
		dim, experts := 1+m.next(8), 1+m.next(8)
		tokens := m.tokens(dim)
		l := m.layer(dim, experts, 1)
		for _, l.Capacity = range []int{1, 2, 3, 8, 31, 32} {
			checkParts(t, l, tokens)
		}
		// Whether a token has its parts hangs not on those behind it.
		l.Capacity = 1 + m.next(5)
		all := checkParts(t, l, tokens)
		for many := range tokens {
			got := checkParts(t, l, tokens[:many])
			if !slices.Equal(got, all[:len(got)]) || len(got) < len(all) && all[len(got)].Token < many {
				t.Fatalf("Parts of the first %d of %s: %v, not a beginning of %v", many, shown(tokens), got, all)
			}
		}
	}
}

// P15.1: what an expert is made of counts not, only how many there are.
func TestPartsOfGateAlone(t *testing.T) {
	m := mixed(9)
	for range 50 {
		l := m.layer(3, 1+m.next(8), 1+m.next(6))
		tokens := m.tokens(3)
		want := checkParts(t, l, tokens)
		l.Experts = make([]api.Expert, len(l.Experts))
		if got := Parts(l, tokens); !slices.Equal(got, want) {
			t.Fatalf("Parts of other experts: %v, not %v", got, want)
		}
	}
}

// expectCombine holds Combine of tokens of one number, and of answers of one,
// against what is written out.
func expectCombine(t *testing.T, tokens []int, parts []Part, answers []int, want ...int) {
	t.Helper()
	if got := Combine(column(tokens...), parts, column(answers...)); !same(got, column(want...)) {
		t.Errorf("Combine(%v, %v, %v): %v, not %v", tokens, parts, answers, got, want)
	}
	checkCombine(t, column(tokens...), parts, column(answers...))
}

func partOf(token, weight int) Part {
	return Part{Token: token, Weight: weight}
}

// P15.2: what comes of tokens of one number, written out.
func TestCombineWrittenOut(t *testing.T) {
	// No parts, and no answers.
	expectCombine(t, []int{5, -7}, nil, nil, 5, -7)
	expectCombine(t, []int{5, -7}, []Part{}, []int{1, 2}, 5, -7)
	expectCombine(t, []int{5, -7}, []Part{partOf(0, one), partOf(1, one)}, nil, 5, -7)
	expectCombine(t, nil, []Part{partOf(0, one)}, []int{3})
	// A part of the token itself, and of others.
	expectCombine(t, []int{5, -7}, []Part{partOf(0, one)}, []int{3}, 8, -7)
	expectCombine(t, []int{5, -7}, []Part{partOf(1, one)}, []int{3}, 5, -4)
	expectCombine(t, []int{5, -7}, []Part{partOf(1, one), partOf(0, one)}, []int{3, 4}, 9, -4)
	expectCombine(t, []int{5, -7}, []Part{partOf(1, one), partOf(0, one), partOf(1, one)}, []int{3, 4, 10}, 9, 6)
	// Weights: 0, below 0, parts of One, cut off towards 0 each by itself.
	expectCombine(t, []int{5}, []Part{partOf(0, 0)}, []int{300}, 5)
	expectCombine(t, []int{5}, []Part{partOf(0, -one)}, []int{300}, -295)
	expectCombine(t, []int{5}, []Part{partOf(0, half)}, []int{301}, 155)
	expectCombine(t, []int{5}, []Part{partOf(0, half)}, []int{-301}, -145)
	expectCombine(t, []int{5}, []Part{partOf(0, half), partOf(0, half)}, []int{1, 1}, 5)
	expectCombine(t, []int{5}, []Part{partOf(0, 3*one)}, []int{7}, 26)
	expectCombine(t, []int{0}, []Part{partOf(0, math.MaxInt)}, []int{2}, 65535)
	expectCombine(t, []int{0}, []Part{partOf(0, math.MinInt)}, []int{2}, -65535)
	// The same part twice.
	expectCombine(t, []int{5}, []Part{partOf(0, one), partOf(0, one)}, []int{3, 3}, 11)
	expectCombine(t, []int{5}, []Part{partOf(0, one), partOf(0, one), partOf(0, one)}, []int{3, 4, 5}, 17)
	// Tokens that there are none of.
	for _, none := range []int{-1, -2, 2, 3, 16, 1 << 32, -1 << 32, 1<<32 + 1, math.MaxInt, math.MinInt} {
		expectCombine(t, []int{5, 6}, []Part{partOf(none, one)}, []int{3}, 5, 6)
		expectCombine(t, []int{5, 6}, []Part{partOf(none, one), partOf(1, one)}, []int{3, 4}, 5, 10)
		expectCombine(t, []int{5, 6}, []Part{partOf(0, one), partOf(none, one), partOf(1, one)}, []int{1, 2, 3}, 6, 9)
	}
	// Fewer answers than parts, and more.
	expectCombine(t, []int{5, 6}, []Part{partOf(0, one), partOf(1, one)}, []int{3}, 8, 6)
	expectCombine(t, []int{5, 6}, []Part{partOf(1, one), partOf(0, one)}, []int{3}, 5, 9)
	expectCombine(t, []int{5, 6}, []Part{partOf(0, one)}, []int{3, 4, 9}, 8, 6)
}

// P15.2: Rank and Expert count not.
func TestCombineRankAndExpert(t *testing.T) {
	for _, rank := range []int{0, 1, 2, -1, math.MaxInt, math.MinInt} {
		for _, x := range []int{0, 7, 8, -1, math.MaxInt, math.MinInt} {
			expectCombine(t, []int{5, 6}, []Part{{1, rank, x, one}, {0, x, rank, 2 * one}}, []int{3, 4}, 13, 9)
		}
	}
}

// P15.2: each sum is held, so that the order of a token's parts counts.
func TestCombineHeld(t *testing.T) {
	whole := []Part{partOf(0, one), partOf(0, one)}
	expectCombine(t, []int{most - 10}, whole, []int{100, -50}, most-50)
	expectCombine(t, []int{most - 10}, whole, []int{-50, 100}, most)
	expectCombine(t, []int{10 - most}, whole, []int{-100, 50}, 50-most)
	expectCombine(t, []int{10 - most}, whole, []int{50, -100}, -most)
	expectCombine(t, []int{most}, whole, []int{most, most}, most)
	expectCombine(t, []int{-most}, whole, []int{-most, -most}, -most)
	expectCombine(t, []int{most}, whole, []int{most, -most}, 0)
	expectCombine(t, []int{most}, whole, []int{-most, most}, most)
	expectCombine(t, []int{0}, []Part{partOf(0, 2*one), partOf(0, -one)}, []int{most, 7}, most-7)
	// The products are held too, and so are numbers of the token, where
	// something is added to it; else it is as it was.
	expectCombine(t, []int{-7}, []Part{partOf(0, 2*one)}, []int{most}, most-7)
	expectCombine(t, []int{7}, []Part{partOf(0, math.MaxInt)}, []int{math.MinInt}, 7-most)
	expectCombine(t, []int{math.MaxInt, math.MinInt, most + 1}, []Part{partOf(0, one), partOf(1, one)}, []int{-5, 5}, most-5, 5-most, most+1)
	expectCombine(t, []int{math.MaxInt, math.MinInt}, []Part{partOf(1, 0), partOf(7, 0)}, []int{1, 1}, math.MaxInt, -most)
	// Parts of several tokens mixed: each token's in their order.
	expectCombine(t, []int{most, -most}, []Part{partOf(1, one), partOf(0, one), partOf(0, one), partOf(1, one)}, []int{-9, 9, -3, 4}, most-3, 4-most)
	expectCombine(t, []int{most, -most}, []Part{partOf(0, one), partOf(1, one), partOf(1, one), partOf(0, one)}, []int{-3, 4, -9, 9}, most, -most)
}

// P15.2: an answer that is too short, too long, or nil, is as none, also where
// it is that of another token, of which it would be; those behind it count.
func TestCombineUnlikeAnswers(t *testing.T) {
	for long := range 9 {
		m := mixed(long)
		for _, wrong := range []int{0, 1, long - 1, long + 1, 2*long + 1, 100} {
			if wrong < 0 {
				continue
			}
			tokens, answers := m.rows(3, long), m.rows(4, long)
			answers[1] = m.row(wrong)
			parts := []Part{partOf(0, one), partOf(1, one), partOf(1, one), partOf(2, half)}
			want := wantCombine(tokens, parts, answers)
			got := checkCombine(t, tokens, parts, answers)
			if wrong != long {
				answers[1] = nil
				want = wantCombine(tokens, slices.Delete(slices.Clone(parts), 1, 2), slices.Delete(slices.Clone(answers), 1, 2))
			}
			if !same(got, want) {
				t.Errorf("an answer of %d, of %d: %v, not %v", wrong, long, got, want)
			}
			checkCombine(t, tokens, parts, answers)
		}
	}
	// Tokens that are unlike: each takes what is as long as itself.
	tokens := [][]int{{1}, nil, {2, 3}, {}}
	parts := []Part{partOf(0, one), partOf(1, one), partOf(2, one), partOf(3, one), partOf(0, one), partOf(2, one)}
	got := checkCombine(t, tokens, parts, [][]int{{9, 9}, {9}, {9}, nil, {4}, {5, 6}})
	if !same(got, [][]int{{5}, nil, {7, 9}, nil}) {
		t.Errorf("Combine of tokens that are unlike: %v", got)
	}
}

// P15.2: an answer's place is its part's, also behind parts of nothing.
func TestCombinePlaces(t *testing.T) {
	for _, many := range []int{1, 2, 5, 33} {
		for at := range many {
			parts := slices.Repeat([]Part{partOf(-1, one)}, many)
			parts[at] = partOf(1, one)
			answers := make([][]int, many)
			for i := range answers {
				answers[i] = []int{1000 + i}
			}
			for _, some := range []int{at, at + 1, many} {
				want := [][]int{{1}, {2}}
				if at < some {
					want[1][0] += 1000 + at
				}
				if got := checkCombine(t, column(1, 2), parts, answers[:some]); !same(got, want) {
					t.Errorf("Combine, the part at %d of %d: %v", at, many, got)
				}
			}
		}
	}
}

// parts are drawn: of tokens that are there, and of some that are not.
func (m *mixed) parts(many, tokens int) []Part {
	l := make([]Part, many)
	for i := range l {
		l[i] = Part{m.next(tokens+2) - 1, m.next(2), m.next(8), m.next(one + 1)}
		if m.next(4) == 0 {
			l[i].Weight = m.wild()
		}
		if m.next(8) == 0 {
			l[i].Token = m.wild()
		}
	}
	return l
}

// P15.2: tokens, parts and answers that are drawn, the wrong ones too.
func TestCombineDrawn(t *testing.T) {
	for seed := range 3000 {
		m := mixed(seed)
		long, many := m.next(9), m.next(20)
		tokens, answers := m.rows(many, long), m.rows(m.next(40), long)
		for range m.next(4) {
			if len(answers) > 0 {
				answers[m.next(len(answers))] = m.row(m.next(10))
			}
			if many > 0 && long > 0 {
				tokens[m.next(many)][m.next(long)] = m.wild()
			}
		}
		parts := m.parts(m.next(40), many)
		got := checkCombine(t, tokens, parts, answers)
		// Those of one token alone make of it what all of them do.
		for at := range tokens {
			var own []Part
			var ownAnswers [][]int
			for i, p := range parts {
				if p.Token == at && i < len(answers) {
					own, ownAnswers = append(own, p), append(ownAnswers, answers[i])
				}
			}
			if alone := Combine(tokens, own, ownAnswers); !slices.Equal(alone[at], got[at]) {
				t.Fatalf("Combine(%s, %s, %s): %s, but its own parts alone: %v", shown(tokens), shown(parts), shown(answers), shown(got), alone[at])
			}
		}
	}
}

// expectForward holds Forward of layers for tokens of one number against what
// is written out.
func expectForward(t *testing.T, layers []api.Layer, tokens []int, want ...int) {
	t.Helper()
	m := api.Model{Dim: 1, Layers: layers}
	if got, e := Forward(m, column(tokens...)); e != 0 || !same(got, column(want...)) {
		t.Errorf("Forward(%s, %v): %v, %d, not %v", shown(m), tokens, got, e, want)
	}
	checkForward(t, m, column(tokens...))
}

// P15.2: what a model makes of tokens of one number, written out.
func TestForwardWrittenOut(t *testing.T) {
	whole := lines(32, []int{0}, one)
	// One layer: the token and what its expert makes of it, which is 0 of what
	// is below 0.
	expectForward(t, []api.Layer{whole}, []int{100}, 200)
	expectForward(t, []api.Layer{whole}, []int{-100, 0, 7, 100}, -100, 0, 14, 200)
	expectForward(t, []api.Layer{lines(32, []int{0}, -one)}, []int{100, -100}, 0, -100)
	expectForward(t, []api.Layer{lines(32, []int{0}, 2*one)}, []int{100}, 300)
	// Several: the next one has what the one ahead makes.
	expectForward(t, []api.Layer{whole, whole}, []int{100, 1}, 400, 4)
	expectForward(t, []api.Layer{whole, whole, whole, whole}, []int{100, -1}, 1600, -1)
	expectForward(t, []api.Layer{whole, lines(1, []int{0}, 2*one)}, []int{100, 100}, 600, 200)
	expectForward(t, []api.Layer{lines(1, []int{0}, 2*one), whole}, []int{100, 100}, 600, 200)
	expectForward(t, []api.Layer{lines(2, []int{0}, -2*one), whole}, []int{100, -100, 5}, -100, -100, 10)
	// Two experts, half each, while they have room; their slots are new in each
	// layer.
	pair := lines(1, []int{0, 0}, one, 2*one)
	expectForward(t, []api.Layer{pair}, []int{100, 100}, 250, 100)
	expectForward(t, []api.Layer{pair, pair}, []int{100, 100}, 625, 100)
	expectForward(t, []api.Layer{pair, lines(2, []int{0, 0}, one, 2*one)}, []int{100, 100}, 625, 250)
	// 3 of 4 and 1 of 4 of what is 2 times and 4 times as much.
	expectForward(t, []api.Layer{lines(1, []int{2, 0}, 2*one, 4*one)}, []int{one}, 7*half)
	// The token 0 takes the room of the first two; of the next one the second
	// has room, and 1 of 4 of 8 times as much is added; of the last one none.
	expectForward(t, []api.Layer{lines(1, []int{8, -8, 2}, one, one, 8*one)}, []int{0, one, one}, 0, 3*one, one)
	// Held, on either side, and in the next layer again.
	expectForward(t, []api.Layer{whole}, []int{most, most - 1, most/2 + 1, most / 2, -most}, most, most, most, most-1, -most)
	expectForward(t, []api.Layer{whole, lines(32, []int{0}, -2*one)}, []int{most, 1}, 0, -2)
	expectForward(t, []api.Layer{lines(32, []int{0}, -most)}, []int{one, 1}, one-most, 1-32767)
}

// P15.2: ErrArg and no rows, if the model is wrong, the tokens are, or both.
func TestForwardWrong(t *testing.T) {
	right, wrongLayer := made(1, 2, 2, 2, 2), made(1, 2, 2, 2, 2)
	wrongLayer.Layers[1].Capacity = 33
	m := mixed(1)
	models := []api.Model{{}, {Dim: 2}, made(1, 0, 1, 1, 1), made(1, 9, 1, 1, 1), made(1, 2, 5, 1, 1), made(1, 2, 1, 9, 1), made(1, 2, 1, 0, 1), made(1, 2, 1, 1, 0), wrongLayer, made(1, -2+4, 3, 3, -1)}
	tokens := [][][]int{nil, {}, {nil}, {{}}, {{1}}, {{1, 2, 3}}, {{1, 2}, {1}}, {{1, most + 1}}, {{-most - 1, 1}}, m.rows(17, 2), m.rows(100, 2)}
	for _, model := range models {
		for _, l := range append(tokens, m.rows(1, 2), m.rows(16, 2), m.rows(1, 9)) {
			if got, e := Forward(model, l); len(got) != 0 || e != api.ErrArg {
				t.Errorf("Forward(%s, %s): %v, %d", shown(model), shown(l), got, e)
			}
			checkForward(t, model, l)
		}
	}
	for _, l := range tokens {
		if got, e := Forward(right, l); len(got) != 0 || e != api.ErrArg {
			t.Errorf("Forward of %s: %v, %d", shown(l), got, e)
		}
		checkForward(t, right, l)
	}
	for _, many := range []int{1, 2, 15, 16} {
		if got, e := Forward(right, m.rows(many, 2)); len(got) != many || e != 0 {
			t.Errorf("Forward of %d tokens: %v, %d", many, got, e)
		}
	}
}

// P15.2: models and tokens that are drawn, and all sizes.
func TestForwardDrawn(t *testing.T) {
	for seed := range 400 {
		m := mixed(seed)
		model := m.drawn()
		checkRight(t, model)
		tokens := m.tokens(model.Dim)
		checkForward(t, model, tokens)
	}
	for dim := 1; dim <= 8; dim++ {
		for _, layers := range []int{1, 4} {
			for _, experts := range []int{1, 2, 8} {
				for _, capacity := range []int{1, 2, 31, 32} {
					m := mixed(capacity)
					model := made(dim, dim, layers, experts, capacity)
					for _, many := range []int{1, 2, 16} {
						checkForward(t, model, m.rows(many, dim))
					}
				}
			}
		}
	}
}

// P15.2: a layer ahead, and the others of what it makes, are the whole.
func TestForwardLayerByLayer(t *testing.T) {
	for seed := range 100 {
		m := mixed(seed)
		model := m.drawn()
		tokens := m.tokens(model.Dim)
		whole := checkForward(t, model, tokens)
		for many := 1; many < len(model.Layers); many++ {
			ahead := checkForward(t, api.Model{Dim: model.Dim, Layers: model.Layers[:many]}, tokens)
			if got := checkForward(t, api.Model{Dim: model.Dim, Layers: model.Layers[many:]}, ahead); !same(got, whole) {
				t.Fatalf("Forward by %d layers and the others: %s, not %s", many, shown(got), shown(whole))
			}
		}
	}
}

// P15.2: a token's answer hangs not on the tokens behind it.
func TestForwardBeginnings(t *testing.T) {
	for seed := range 100 {
		m := mixed(seed)
		model := m.drawn()
		tokens := m.tokens(model.Dim)
		all := checkForward(t, model, tokens)
		for many := 1; many < len(tokens); many++ {
			if got := checkForward(t, model, tokens[:many]); !same(got, all[:many]) {
				t.Fatalf("Forward of the first %d of %s: %s, not %s", many, shown(tokens), shown(got), shown(all[:many]))
			}
			other := slices.Concat(tokens[:many], m.rows(16-many, model.Dim))
			if got := checkForward(t, model, other); !same(got[:many], all[:many]) {
				t.Fatalf("Forward of %s: %s, with others behind: %s", shown(tokens), shown(all[:many]), shown(got[:many]))
			}
		}
	}
}

// P15.3: of a model whose experts make noughts tokens stay as they are: as Out
// is noughts, as In is, as all of In is below 0, or as what they make is cut off.
func TestNoughts(t *testing.T) {
	fill := func(rows [][]int, n int) {
		for _, row := range rows {
			for i := range row {
				row[i] = n
			}
		}
	}
	for seed := range 200 {
		m := mixed(seed)
		model := m.drawn()
		tokens := m.tokens(model.Dim)
		tokens[m.next(len(tokens))][m.next(model.Dim)] = []int{most, -most}[m.next(2)]
		for _, l := range model.Layers {
			for _, x := range l.Experts {
				if m.next(2) == 0 {
					fill(x.In, 0)
				} else {
					fill(x.Out, 0)
				}
			}
		}
		if got, e := Forward(model, tokens); e != 0 || !same(got, tokens) {
			t.Fatalf("Forward of noughts, %s: %s, %d", shown(tokens), shown(got), e)
		}
		checkForward(t, model, tokens)
	}
	negative := lines(32, []int{3, 4}, most, -most)
	expectForward(t, []api.Layer{negative, negative, negative}, []int{-1, 0, -one, -most}, -1, 0, -one, -most)
	little := lines(32, []int{0, 0}, half, -half)
	expectForward(t, []api.Layer{little, little}, []int{1, 0, -1, -most}, 1, 0, -1, -most)
}

// P1: at all arguments every call ends and none panics; parts are always of
// tokens and experts that there are.
func TestAllArguments(t *testing.T) {
	layers := []api.Layer{
		{}, {Capacity: 1}, {Gate: [][]int{nil}, Capacity: 1}, {Gate: [][]int{{}}, Experts: make([]api.Expert, 1), Capacity: 1}, {Gate: column(1, 2, 3), Capacity: 5},
		{Gate: column(1, 2, 3), Experts: make([]api.Expert, 1), Capacity: 5}, {Gate: column(1), Experts: make([]api.Expert, 3), Capacity: 5}, {Experts: make([]api.Expert, 3), Capacity: 5},
		{Gate: [][]int{{1}, {1, 2}}, Experts: make([]api.Expert, 2), Capacity: 2}, {Gate: column(math.MinInt, math.MaxInt), Experts: make([]api.Expert, 2), Capacity: math.MaxInt},
		{Gate: column(1, 2), Experts: make([]api.Expert, 2), Capacity: 0}, {Gate: column(1, 2), Experts: make([]api.Expert, 2), Capacity: math.MinInt}, {Gate: column(1, 2), Experts: make([]api.Expert, 2), Capacity: -1},
		lines(1, []int{1, 2}, one, one), lines(33, []int{1, 2}, math.MaxInt, math.MinInt), {Gate: make([][]int, 100), Experts: make([]api.Expert, 100), Capacity: 100},
	}
	tokens := [][][]int{
		nil, {}, {nil}, {{}}, {{1}}, {{1}, nil, {1}}, {{1, 2}}, {{1}, {1, 2}, {}}, {{math.MaxInt}, {math.MinInt}}, make([][]int, 100), slices.Repeat([][]int{{7}}, 100), {make([]int, 1000)},
	}
	for _, l := range layers {
		for _, some := range tokens {
			parts := Parts(l, some)
			for _, p := range parts {
				if p.Token < 0 || p.Token >= len(some) || p.Expert < 0 || p.Expert >= len(l.Experts) {
					t.Errorf("Parts(%s, %s): %v", shown(l), shown(some), p)
				}
			}
			for _, other := range tokens {
				checkCombine(t, other, parts, some)
				checkCombine(t, some, parts, other)
			}
			for _, dim := range []int{-1, 0, 1, 2, 1000, math.MaxInt, math.MinInt} {
				for many := range 6 {
					m := api.Model{Dim: dim, Layers: slices.Repeat([]api.Layer{l}, many)}
					checkRight(t, m)
					checkTokens(t, m, some)
					checkForward(t, m, some)
				}
			}
		}
	}
}

// P15.1: where the gate has no choice for a token, it has no part, and takes no
// slot of others.
func TestNoChoice(t *testing.T) {
	l := lines(1, []int{2, 0}, one, one)
	want := []Part{{1, 0, 0, 49152}, {1, 1, 1, 16384}}
	for _, none := range [][]int{nil, {}, {1, 2}} {
		if got := Parts(l, [][]int{none, {one}, none, {one}}); !slices.Equal(got, want) {
			t.Errorf("Parts with tokens %v: %v", none, got)
		}
		if got := Parts(l, [][]int{none, none}); len(got) != 0 {
			t.Errorf("Parts of tokens %v: %v", none, got)
		}
	}
}

// roomy is rows in memory with room behind the last one, and each row too.
func roomy(rows [][]int, room int) (short, memory [][]int) {
	memory = make([][]int, len(rows)+room)
	for i := range memory {
		long := make([]int, 9+room)
		for j := range long {
			long[j] = 77 + j
		}
		memory[i] = long
		if i < len(rows) {
			copy(long, rows[i])
			memory[i] = long[:len(rows[i])]
		}
	}
	return memory[:len(rows)], memory
}

// deep is all of the rows, up to the end of their memory.
func deep(rows [][]int) [][]int {
	var l [][]int
	for _, row := range rows[:cap(rows)] {
		l = append(l, slices.Clone(row[:cap(row)]))
	}
	return l
}

// R1, R4: what is handed in stays as it is, up to the end of its memory, and
// what stands behind the last element counts not.
func TestWhatIsHandedInStays(t *testing.T) {
	for seed := range 60 {
		m := mixed(seed)
		model, room := m.drawn(), m.next(4)
		tokens := m.tokens(model.Dim)
		want := checkForward(t, model, tokens)
		var memories [][][]int
		wide := func(rows [][]int) [][]int {
			short, memory := roomy(rows, room)
			memories = append(memories, memory)
			return short
		}
		other := copied(model)
		for i, l := range other.Layers {
			other.Layers[i].Gate = wide(l.Gate)
			for j, x := range l.Experts {
				l.Experts[j] = api.Expert{In: wide(x.In), Out: wide(x.Out)}
			}
			experts := append(l.Experts, make([]api.Expert, room)...)
			other.Layers[i].Experts = experts[:len(l.Experts)]
		}
		others := wide(tokens)
		var was [][][]int
		for _, memory := range memories {
			was = append(was, deep(memory))
		}
		if got := checkForward(t, other, others); !same(got, want) {
			t.Fatalf("Forward with room behind: %s, not %s", shown(got), shown(want))
		}
		parts := checkParts(t, other.Layers[0], others)
		answers := wide(m.rows(len(parts), model.Dim))
		was = append(was, deep(memories[len(memories)-1]))
		checkCombine(t, others, append(parts, Part{}, Part{})[:len(parts)], answers)
		for i, memory := range memories {
			if !reflect.DeepEqual(deep(memory), was[i]) {
				t.Fatalf("what was handed in is now %s, not %s", shown(deep(memory)), shown(was[i]))
			}
		}
	}
}

// spill writes over all memory of rows.
func spill(rows [][]int) {
	for _, row := range rows {
		for i := range row[:cap(row)] {
			row[:cap(row)][i] = 99
		}
	}
}

// R1: an answer shares no memory with what was handed in, nor with another
// answer, nor do two rows of it, up to the end of their memory.
func TestNewMemory(t *testing.T) {
	for seed := range 100 {
		m := mixed(seed)
		model := m.drawn()
		tokens := m.tokens(model.Dim)
		parts := m.parts(m.next(10), len(tokens))
		answers := m.rows(m.next(10), model.Dim)
		ways := []func() [][]int{
			func() [][]int { l, _ := Forward(model, tokens); return l },
			func() [][]int { return Combine(tokens, parts, answers) },
			func() [][]int { return Combine(tokens, nil, nil) },
		}
		for _, way := range ways {
			got, other, wasTokens, wasAnswers, wasModel := way(), way(), copiedRows(tokens), copiedRows(answers), copied(model)
			want := copiedRows(other)
			spill(got)
			if !same(other, want) || !same(tokens, wasTokens) || !same(answers, wasAnswers) || !reflect.DeepEqual(model, wasModel) {
				t.Fatalf("an answer of %s shares its memory", shown(tokens))
			}
			for i := range other {
				spill(other[i : i+1])
				for j := i + 1; j < len(other); j++ {
					if !slices.Equal(other[j], want[j]) {
						t.Fatalf("the rows %d and %d of an answer share memory", i, j)
					}
				}
			}
			got = way()
			spill(tokens)
			spill(answers)
			if !same(got, want) {
				t.Fatalf("an answer is what was handed in")
			}
			for i := range tokens {
				copy(tokens[i], wasTokens[i])
			}
			for i := range answers {
				copy(answers[i], wasAnswers[i])
			}
		}
		l := model.Layers[0]
		got, other := Parts(l, tokens), Parts(l, tokens)
		clear(got[:cap(got)])
		if !slices.Equal(other, wantParts(l, tokens)) {
			t.Fatalf("two answers of Parts share memory")
		}
	}
}

// R1: rows that are one and the same memory, as tokens, as answers and within a
// model, are as rows with the same numbers.
func TestSharedMemory(t *testing.T) {
	for seed := range 50 {
		m := mixed(seed)
		row := m.row(2)
		tokens := slices.Repeat([][]int{row}, 5)
		x := api.Expert{In: [][]int{row, row}, Out: [][]int{row, row}}
		l := api.Layer{Gate: [][]int{row, row, row}, Experts: []api.Expert{x, x, x}, Capacity: 1 + m.next(6)}
		model := api.Model{Dim: 2, Layers: []api.Layer{l, l, l}}
		got := checkForward(t, model, tokens)
		if want := checkForward(t, copied(model), copiedRows(tokens)); !same(got, want) {
			t.Fatalf("Forward of one memory: %s, not %s", shown(got), shown(want))
		}
		parts := m.parts(12, 5)
		got = checkCombine(t, tokens, parts, slices.Repeat(tokens, 3))
		if want := checkCombine(t, copiedRows(tokens), parts, copiedRows(slices.Repeat(tokens, 3))); !same(got, want) {
			t.Fatalf("Combine of one memory: %s, not %s", shown(got), shown(want))
		}
	}
}

// R4: nothing is kept: each call hangs on what it is handed now.
func TestNothingIsKept(t *testing.T) {
	m := mixed(4)
	model := m.drawn()
	tokens := m.rows(9, model.Dim)
	for range 60 {
		first := checkForward(t, model, tokens)
		checkForward(t, m.drawn(), tokens)
		checkForward(t, model, nil)
		if again := checkForward(t, model, tokens); !same(again, first) {
			t.Fatalf("Forward of %s: %s, and then %s", shown(tokens), shown(first), shown(again))
		}
		tokens[m.next(9)][m.next(model.Dim)] = m.number()
		l := &model.Layers[m.next(len(model.Layers))]
		l.Gate[m.next(len(l.Gate))][m.next(model.Dim)] = m.number()
		l.Experts[m.next(len(l.Experts))] = m.expert(model.Dim)
		l.Capacity = 1 + m.next(32)
	}
}

// spoil changes one thing of a model, that may then be wrong.
func (m *mixed) spoil(model *api.Model, tokens *[][]int) {
	l := &model.Layers[m.next(len(model.Layers))]
	x := &l.Experts[m.next(len(l.Experts))]
	rows := []*[][]int{&l.Gate, &x.In, &x.Out, tokens}[m.next(4)]
	switch m.next(7) {
	case 0:
		model.Dim += m.next(5) - 2
	case 1:
		l.Capacity = m.next(80) - 20
	case 2:
		*rows = append(*rows, m.row(model.Dim))
	case 3:
		*rows = (*rows)[:len(*rows)-1]
	case 4:
		at := m.next(len(*rows))
		(*rows)[at] = m.row(m.next(10))
	case 5:
		row := (*rows)[m.next(len(*rows))]
		row[m.next(len(row))] = m.wild()
	case 6:
		l.Experts = append(l.Experts, m.expert(model.Dim))
	}
}

// P15.1, P15.2: models and tokens with one thing changed, right and wrong.
func TestSpoiled(t *testing.T) {
	right := 0
	for seed := range 4000 {
		m := mixed(seed)
		model := m.drawn()
		tokens := m.tokens(model.Dim)
		m.spoil(&model, &tokens)
		if checkRight(t, model) && checkTokens(t, model, tokens) {
			right++
			if seed%10 > 0 {
				continue
			}
		}
		checkForward(t, model, tokens)
	}
	if right < 400 || right > 3600 {
		t.Errorf("%d of 4000 are right", right)
	}
}

func FuzzModel(f *testing.F) {
	f.Add(uint64(1), []byte{}, 1, false)
	f.Add(uint64(2), []byte{0, 1, 0, 255, 128, 7, 7, 7}, 2, false)
	f.Add(uint64(3), []byte{9, 200, 31, 4}, 33, true)
	f.Add(uint64(44), []byte{1, 1, 1, 1, 1, 1, 1, 1, 1}, math.MinInt, true)
	f.Fuzz(func(t *testing.T, seed uint64, bytes []byte, capacity int, wrong bool) {
		m := mixed(seed)
		model := m.drawn()
		tokens := m.tokens(model.Dim)
		for i, b := range bytes[:min(len(bytes), 100)] {
			token := tokens[i/model.Dim%len(tokens)]
			token[i%model.Dim] = int(int8(b)) << (int(b) % 24)
		}
		checkForward(t, model, tokens)
		model.Layers[0].Capacity = capacity
		checkForward(t, model, tokens)
		model.Layers[0].Capacity = 1 + (capacity&math.MaxInt)%32
		checkForward(t, model, tokens)
		if wrong {
			m.spoil(&model, &tokens)
			checkRight(t, model)
			checkTokens(t, model, tokens)
			checkForward(t, model, tokens)
			Parts(model.Layers[0], tokens)
		}
		many := m.next(20)
		checkCombine(t, m.rows(many, model.Dim), m.parts(m.next(40), many), m.rows(m.next(40), model.Dim))
	})
}
