package fleet

import (
	"encoding/binary"
	"fmt"
	"hash/crc32"
	"math"
	"reflect"
	"slices"
	"testing"

	"switchboard/api"
	"switchboard/expert"
	"switchboard/model"
	"switchboard/place"
)

const (
	one  = 65536
	half = 32768
	most = 2147483647
)

// mixed gives numbers that are always the same ones for a seed.
type mixed uint64

func (m *mixed) next(below int) int {
	*m = *m*6364136223846793005 + 1442695040888963407
	return int(uint64(*m)>>33) % below
}

func (m *mixed) of(numbers ...int) int { return numbers[m.next(len(numbers))] }

func (m *mixed) wild() int {
	return m.of(-1, 0, 1, 2, 3, 4, 5, 8, 9, most, most+1, -most, -most-1, -most-2, 1<<32, 1<<32+1, math.MaxInt, math.MinInt)
}

// number is held: small, around One, an edge, or anything up to Top.
func (m *mixed) number() int {
	switch m.next(6) {
	case 0:
		return m.next(21) - 10
	case 1, 2:
		return (m.next(9)-4)*one + m.next(5) - 2
	case 3:
		return m.of(0, 1, -1, half, -half, one-1, 1-one, one, -one, most-1, 1-most, most, -most)
	case 4:
		return m.next(2*one) - one
	}
	return m.next(most) - m.next(most)
}

func (m *mixed) row(many int) []int {
	l := make([]int, many)
	for i := range l {
		l[i] = m.number()
	}
	return l
}

func (m *mixed) rows(many, long int) [][]int {
	l := make([][]int, many)
	for i := range l {
		l[i] = m.row(long)
	}
	return l
}

func (m *mixed) layer(dim, experts int) api.Layer {
	l := api.Layer{Gate: m.rows(experts, dim), Capacity: 1 + m.next(32)}
	for range experts {
		inner := 1 + m.next(8)
		l.Experts = append(l.Experts, api.Expert{In: m.rows(inner, dim), Out: m.rows(dim, inner)})
	}
	return l
}

// lists are all that an expert's Holders can be, written out.
func lists() [][]int {
	return [][]int{
		{1}, {2}, {3}, {4}, {1, 2}, {1, 3}, {1, 4}, {2, 3}, {2, 4}, {3, 4},
		{1, 2, 3}, {1, 2, 4}, {1, 3, 4}, {2, 3, 4}, {1, 2, 3, 4},
	}
}

// game is what New is handed.
type game struct {
	m      api.Model
	p      place.Map
	tokens [][]int
}

// made is a right game, of so many experts in each of its layers, and no holder
// more than they need.
func (m *mixed) made(dim, tokens int, experts ...int) game {
	g := game{api.Model{Dim: dim}, place.Map{Epoch: m.of(0, 1, 7, m.next(most), most-100)}, m.rows(tokens, dim)}
	for _, many := range experts {
		g.m.Layers = append(g.m.Layers, m.layer(dim, many))
	}
	for range slices.Max(experts) {
		g.p.Holders = append(g.p.Holders, slices.Clone(lists()[m.next(15)]))
	}
	return g
}

// game is a right one, whose layers are unlike; its map may have experts that no
// layer has.
func (m *mixed) game() game {
	var experts []int
	for range 1 + m.next(4) {
		experts = append(experts, 1+m.next(8))
	}
	g := m.made(1+m.next(8), 1+m.next(16), experts...)
	for len(g.p.Holders) < 8 && m.next(2) == 0 {
		g.p.Holders = append(g.p.Holders, slices.Clone(lists()[m.next(15)]))
	}
	return g
}

// plain is DOC.md's example: the model, map and tokens of layer 20.
func plain() game {
	in := [][]int{{one}}
	l := api.Layer{Gate: [][]int{{one}, {0}}, Experts: []api.Expert{{In: in, Out: [][]int{{one}}}, {In: in, Out: [][]int{{2 * one}}}}, Capacity: 2}
	return game{api.Model{Dim: 1, Layers: []api.Layer{l}}, place.Map{Holders: [][]int{{1, 2}, {1, 2}}}, [][]int{{100}, {50}, {7}}}
}

// two is plain, with the layer once more, and an Epoch.
func two() game {
	g := plain()
	g.m.Layers = append(g.m.Layers, plain().m.Layers...)
	g.p.Epoch = 5
	return g
}

// wide is a game of many parts: 32 in each of its three layers, of Dim 2.
func wide() game {
	draw := mixed(19)
	g := draw.made(2, 16, 3, 8, 5)
	for i := range g.m.Layers {
		g.m.Layers[i].Capacity = 32
	}
	g.p.Epoch = 40
	return g
}

func copiedLists(rows [][]int) [][]int {
	l := slices.Clone(rows)
	for i := range l {
		l[i] = slices.Clone(l[i])
	}
	return l
}

// apart is a game like g, in memory of its own.
func (g game) apart() game {
	layers := slices.Clone(g.m.Layers)
	for i, l := range layers {
		experts := slices.Clone(l.Experts)
		for k, x := range experts {
			experts[k] = api.Expert{In: copiedLists(x.In), Out: copiedLists(x.Out)}
		}
		layers[i] = api.Layer{Gate: copiedLists(l.Gate), Experts: experts, Capacity: l.Capacity}
	}
	return game{api.Model{Dim: g.m.Dim, Layers: layers}, place.Map{Epoch: g.p.Epoch, Holders: copiedLists(g.p.Holders)}, copiedLists(g.tokens)}
}

func (g game) begin(t *testing.T) *Fleet {
	t.Helper()
	f, errno := New(g.m, g.p, g.tokens)
	if errno != api.OK || f == nil {
		t.Fatalf("New: %v, %d", f, errno)
	}
	return f
}

// parts is how many all layers have.
func (g game) parts() int {
	many := 0
	tokens := g.tokens
	for _, l := range g.m.Layers {
		parts := model.Parts(l, tokens)
		many += len(parts)
		tokens, _ = model.Forward(api.Model{Dim: g.m.Dim, Layers: []api.Layer{l}}, tokens)
	}
	return many
}

// shown keeps what a test says short.
func shown(g game) string {
	var layers []int
	for _, l := range g.m.Layers {
		layers = append(layers, len(l.Experts))
	}
	return fmt.Sprintf("(Dim %d, experts %v, %.200s, %d tokens)", g.m.Dim, layers, fmt.Sprint(g.p), len(g.tokens))
}

func within(n, low, high int) bool { return low <= n && n <= high }

// bytesOf and read are layer 7's words, written anew.
func bytesOf(a api.Msg) string {
	var b []byte
	for _, n := range append([]int{a.Kind, a.From, a.To, a.Seq, a.Batch, a.Layer, a.Token, a.Rank, a.Expert, a.Epoch, len(a.Vec)}, a.Vec...) {
		b = binary.LittleEndian.AppendUint32(b, uint32(n))
	}
	b = binary.LittleEndian.AppendUint32(b, crc32.ChecksumIEEE(b))
	return string(binary.LittleEndian.AppendUint32(nil, uint32(len(b)))) + string(b)
}

func read(s string) (api.Msg, bool) {
	var n []int
	for at := 0; at+4 <= len(s); at += 4 {
		n = append(n, int(binary.LittleEndian.Uint32([]byte(s[at:at+4]))))
	}
	if len(s)%4 != 0 || len(n) < 13 || len(n) > 21 || n[11] != len(n)-13 {
		return api.Msg{}, false
	}
	for _, k := range n[1:11] {
		if k > most {
			return api.Msg{}, false
		}
	}
	a := api.Msg{Kind: n[1], From: n[2], To: n[3], Seq: n[4], Batch: n[5], Layer: n[6], Token: n[7], Rank: n[8], Expert: n[9], Epoch: n[10]}
	for _, k := range n[12 : len(n)-1] {
		a.Vec = append(a.Vec, int(int32(uint32(k))))
	}
	return a, within(a.Kind, 1, 4) && bytesOf(a) == s
}

// record is a fleet by the chapter's words. Its game is what it has by now; of
// the layers below it calls what experts, parts and sums are.
type record struct {
	game
	layer   int
	parts   []model.Part
	answers map[int][]int
	entries map[[5]int][]int // of a node and a key
	frames  []string
}

func (g game) record() *record {
	r := &record{game: g.apart(), entries: map[[5]int][]int{}}
	r.beginLayer()
	return r
}

func (r *record) beginLayer() {
	r.parts, r.answers = nil, map[int][]int{}
	if r.layer < len(r.m.Layers) {
		r.parts = model.Parts(r.m.Layers[r.layer], r.tokens)
		r.ask()
	}
}

func (r *record) put(a api.Msg) {
	if len(r.frames) < 200 {
		r.frames = append(r.frames, bytesOf(a))
	}
}

func (r *record) askOf(p model.Part) api.Msg {
	nodes := r.p.Holders[p.Expert]
	to := nodes[(p.Token+p.Rank)%len(nodes)]
	return api.Msg{Kind: 1, From: 0, To: to, Seq: 0, Batch: 1, Layer: r.layer, Token: p.Token, Rank: p.Rank, Expert: p.Expert, Epoch: r.p.Epoch, Vec: r.tokens[p.Token]}
}

func (r *record) ask() {
	for i, p := range r.parts {
		if _, answered := r.answers[i]; !answered {
			r.put(r.askOf(p))
		}
	}
}

func (r *record) take(i int) (string, api.Errno) {
	if i < 0 || i >= len(r.frames) {
		return "", 4
	}
	s := r.frames[i]
	r.frames = slices.Concat(r.frames[:i], r.frames[i+1:])
	return s, 0
}

func (r *record) twice(i int) api.Errno {
	if i < 0 || i >= len(r.frames) {
		return 4
	}
	if len(r.frames) < 200 {
		r.frames = append(r.frames, r.frames[i])
	}
	return 0
}

func (r *record) deliver(i int) api.Errno {
	s, errno := r.take(i)
	if errno != 0 {
		return errno
	}
	a, ok := read(s)
	if ok && within(a.To, 1, 4) {
		if b, ok := r.work(a); ok {
			r.put(b)
		}
	}
	if ok && a.Kind == 2 && a.To == 0 && a.Batch == 1 && a.Layer == r.layer && len(a.Vec) == r.m.Dim {
		r.hear(a)
	}
	return 0
}

func (r *record) hear(a api.Msg) {
	for i, p := range r.parts {
		_, answered := r.answers[i]
		if p.Token != a.Token || p.Rank != a.Rank || p.Expert != a.Expert || answered {
			continue
		}
		r.answers[i] = a.Vec
		if len(r.answers) == len(r.parts) {
			var all [][]int
			for k := range r.parts {
				all = append(all, r.answers[k])
			}
			r.tokens = model.Combine(r.tokens, r.parts, all)
			r.layer++
			r.beginLayer()
		}
		return
	}
}

// work is layer 18's words.
func (r *record) work(a api.Msg) (api.Msg, bool) {
	if a.Kind != 1 || a.Layer >= len(r.m.Layers) || a.Expert >= len(r.m.Layers[a.Layer].Experts) || len(a.Vec) != r.m.Dim || slices.Contains(a.Vec, -most-1) {
		return api.Msg{}, false
	}
	b := api.Msg{Kind: 3, From: a.To, To: a.From, Seq: a.Seq, Batch: a.Batch, Layer: a.Layer, Token: a.Token, Rank: a.Rank, Expert: a.Expert, Epoch: r.p.Epoch}
	if a.Epoch != r.p.Epoch || !slices.Contains(r.p.Holders[a.Expert], a.To) {
		return b, true
	}
	k := [5]int{a.To, a.Batch, a.Layer, a.Token, a.Rank}
	if r.entries[k] == nil {
		r.entries[k], _ = expert.Run(r.m.Layers[a.Layer].Experts[a.Expert], a.Vec)
	}
	b.Kind, b.Vec = 2, r.entries[k]
	return b, true
}

// turn is layer 17's words.
func (r *record) turn(x, node int, add bool) api.Errno {
	if x < 0 || x >= len(r.p.Holders) || !within(node, 1, 4) || r.p.Epoch == most {
		return 1
	}
	nodes := slices.Clone(r.p.Holders[x])
	holds := slices.Contains(nodes, node)
	if add && holds {
		return 5
	}
	if !add && !holds {
		return 4
	}
	if !add && len(nodes) == 1 {
		return 7
	}
	if add {
		nodes = append(nodes, node)
		slices.Sort(nodes)
	} else {
		nodes = slices.DeleteFunc(nodes, func(n int) bool { return n == node })
	}
	r.p.Holders[x] = nodes
	r.p.Epoch++
	return 0
}

func (r *record) done() ([][]int, bool) {
	if r.layer < len(r.m.Layers) {
		return nil, false
	}
	return r.tokens, true
}

// act is a call, or a frame that somebody lays into the bag.
type act struct {
	what  string
	a, b  int
	frame string
}

func (x act) String() string {
	if x.what == "lay" {
		a, ok := read(x.frame)
		return fmt.Sprintf("lay %+v, %t", a, ok)
	}
	return fmt.Sprintf("%s %d %d", x.what, x.a, x.b)
}

func (x act) on(f *Fleet) api.Errno {
	switch x.what {
	case "ask":
		f.Ask()
	case "deliver":
		return f.Deliver(x.a)
	case "drop":
		return f.Drop(x.a)
	case "twice":
		return f.Twice(x.a)
	case "add":
		return f.Add(x.a, x.b)
	case "retire":
		return f.Retire(x.a, x.b)
	case "lay":
		lay(f, x.frame)
	}
	return 0
}

func (x act) in(r *record) api.Errno {
	switch x.what {
	case "ask":
		r.ask()
	case "deliver":
		return r.deliver(x.a)
	case "drop":
		_, errno := r.take(x.a)
		return errno
	case "twice":
		return r.twice(x.a)
	case "add":
		return r.turn(x.a, x.b, true)
	case "retire":
		return r.turn(x.a, x.b, false)
	case "lay":
		if len(r.frames) < 200 {
			r.frames = append(r.frames, x.frame)
		}
	}
	return 0
}

// lay puts a frame into the bag that the fleet has not made: no call does so.
func lay(f *Fleet, s string) {
	if len(f.frames) < 200 {
		f.frames = append(slices.Clip(f.frames), s)
	}
}

// see is all that a fleet tells.
type see struct {
	frames []string
	worked int
	tokens [][]int
	done   bool
}

func look(f *Fleet) see {
	tokens, done := f.Done()
	return see{f.Bag(), f.Worked(), tokens, done}
}

func sameRows(l, m [][]int) bool { return slices.EqualFunc(l, m, slices.Equal) }

func (s see) same(o see) bool {
	return slices.Equal(s.frames, o.frames) && s.worked == o.worked && sameRows(s.tokens, o.tokens) && s.done == o.done
}

func (s see) String() string {
	var all []string
	for _, frame := range s.frames {
		a, ok := read(frame)
		all = append(all, fmt.Sprintf("%+v, %t", a, ok))
	}
	return fmt.Sprintf("%d frames %.600s, %d entries, %.200s, %t", len(all), fmt.Sprint(all), s.worked, fmt.Sprint(s.tokens), s.done)
}

// check holds a fleet against its record, twice, as telling changes nothing.
func check(t *testing.T, x act, f *Fleet, r *record) {
	t.Helper()
	tokens, done := r.done()
	want := see{r.frames, len(r.entries), tokens, done}
	for range 2 {
		if got := look(f); !got.same(want) {
			t.Fatalf("%s %s: %s, not %s", shown(r.game), x, got, want)
		}
	}
}

// step does an act on both.
func step(t *testing.T, x act, f *Fleet, r *record) {
	t.Helper()
	want := x.in(r)
	if got := x.on(f); got != want {
		t.Fatalf("%s %s: %d, not %d", shown(r.game), x, got, want)
	}
	check(t, x, f, r)
}

// drain delivers in order, till there is no frame.
func drain(t *testing.T, f *Fleet) int {
	t.Helper()
	for many := range 1000 {
		if f.Deliver(0) != api.OK {
			if len(f.Bag()) != 0 {
				t.Fatalf("no frame, and still %d", len(f.Bag()))
			}
			return many
		}
	}
	t.Fatal("it does not come to an end")
	return 0
}

// checkDone: a fleet is done, with what the model makes of the tokens.
func checkDone(t *testing.T, g game, f *Fleet) {
	t.Helper()
	want, errno := model.Forward(g.m, g.tokens)
	if errno != api.OK {
		t.Fatalf("the test's own: %s: %d", shown(g), errno)
	}
	if got, done := f.Done(); !done || !sameRows(got, want) {
		t.Fatalf("%s: %v, %t, not %v", shown(g), got, done, want)
	}
}

// messages are the bag's, all of which must be some.
func messages(t *testing.T, f *Fleet) []api.Msg {
	t.Helper()
	var all []api.Msg
	for i, s := range f.Bag() {
		a, ok := read(s)
		if !ok {
			t.Fatalf("the frame %d is no message: %q", i, s)
		}
		all = append(all, a)
	}
	return all
}

// checkBag holds the bag, byte for byte, against messages.
func checkBag(t *testing.T, what string, f *Fleet, want ...api.Msg) {
	t.Helper()
	var frames []string
	for _, a := range want {
		frames = append(frames, bytesOf(a))
	}
	if !slices.Equal(f.Bag(), frames) {
		t.Fatalf("%s: %s, not %+v", what, look(f), want)
	}
}

// empty takes all frames out of the bag.
func empty(t *testing.T, f *Fleet) {
	t.Helper()
	for len(f.Bag()) > 0 {
		if errno := f.Drop(0); errno != api.OK {
			t.Fatalf("Drop(0) of %d: %d", len(f.Bag()), errno)
		}
	}
}

// asked is what Ask puts into an empty bag.
func asked(t *testing.T, f *Fleet) []api.Msg {
	t.Helper()
	empty(t, f)
	f.Ask()
	return messages(t, f)
}

// ask is of the plain fleet's layer: to a node, of a token, a rank, and an expert.
func ask(to, layer, token, rank, expert, epoch, number int) api.Msg {
	return api.Msg{Kind: 1, To: to, Batch: 1, Layer: layer, Token: token, Rank: rank, Expert: expert, Epoch: epoch, Vec: []int{number}}
}

// said is what is said to an ask, by the node that it is for.
func said(a api.Msg, kind, epoch int, vec ...int) api.Msg {
	a.Kind, a.From, a.To, a.Epoch, a.Vec = kind, a.To, a.From, epoch, vec
	return a
}

// The chapter's example: one expert, one token: one frame; deliver it, and its
// answer: done.
func TestExample(t *testing.T) {
	x := api.Expert{In: [][]int{{one}}, Out: [][]int{{one}}}
	g := game{api.Model{Dim: 1, Layers: []api.Layer{{Gate: [][]int{{0}}, Experts: []api.Expert{x}, Capacity: 1}}}, place.Map{Holders: [][]int{{3}}}, [][]int{{1}}}
	f := g.begin(t)
	a := ask(3, 0, 0, 0, 0, 0, 1)
	checkBag(t, "New", f, a)
	if tokens, done := f.Done(); tokens != nil || done || f.Worked() != 0 {
		t.Errorf("New: %s", look(f))
	}
	if errno := f.Deliver(0); errno != api.OK {
		t.Errorf("the frame: %d", errno)
	}
	checkBag(t, "the frame", f, said(a, 2, 0, 1))
	if tokens, done := f.Done(); tokens != nil || done || f.Worked() != 1 {
		t.Errorf("the frame: %s", look(f))
	}
	if errno := f.Deliver(0); errno != api.OK {
		t.Errorf("its answer: %d", errno)
	}
	checkBag(t, "its answer", f)
	if tokens, done := f.Done(); !done || !sameRows(tokens, [][]int{{2}}) || f.Worked() != 1 {
		t.Errorf("its answer: %s", look(f))
	}
}

// DOC.md's examples, as far as they are a fleet's.
func TestExamplesOfTheWhole(t *testing.T) {
	counts := func(f *Fleet, frames, entries int) {
		t.Helper()
		if len(f.Bag()) != frames || f.Worked() != entries {
			t.Errorf("%s, not %d and %d", look(f), frames, entries)
		}
	}
	f := plain().begin(t)
	counts(f, 4, 0)
	if errno := f.Deliver(0); errno != 0 {
		t.Errorf("deliver 0: %d", errno)
	}
	counts(f, 4, 1)
	if _, done := f.Done(); done {
		t.Error("done")
	}
	for _, c := range []struct{ got, want api.Errno }{{f.Drop(7), 4}, {f.Add(0, 1), 5}, {f.Add(2, 1), 1}} {
		if c.got != c.want {
			t.Errorf("%d, not %d", c.got, c.want)
		}
	}
	f = plain().begin(t)
	if e, d := f.Retire(0, 1), f.Retire(0, 2); e != 0 || d != 7 {
		t.Errorf("retire: %d, %d", e, d)
	}
	f = plain().begin(t)
	if errno := f.Drop(0); errno != 0 {
		t.Errorf("drop 0: %d", errno)
	}
	f.Ask()
	counts(f, 7, 0)
	if errno := f.Twice(0); errno != 0 {
		t.Errorf("twice 0: %d", errno)
	}
	counts(f, 8, 0)
}

// The plain fleet from its beginning to its end, frame by frame: the tokens 100
// and 50 have two parts each, of shares 101 and 1, 51 and 1; 7 has none.
func TestWrittenOut(t *testing.T) {
	f := plain().begin(t)
	asks := []api.Msg{ask(1, 0, 0, 0, 0, 0, 100), ask(2, 0, 0, 1, 1, 0, 100), ask(2, 0, 1, 0, 0, 0, 50), ask(1, 0, 1, 1, 1, 0, 50)}
	answers := []api.Msg{said(asks[0], 2, 0, 100), said(asks[1], 2, 0, 200), said(asks[2], 2, 0, 50), said(asks[3], 2, 0, 100)}
	all := slices.Concat(asks, answers)
	for i := range 8 {
		checkBag(t, fmt.Sprint(i), f, all[i:min(i+4, 8)]...)
		if tokens, done := f.Done(); tokens != nil || done || f.Worked() != min(i, 4) {
			t.Errorf("%d: %s", i, look(f))
		}
		if errno := f.Deliver(0); errno != api.OK {
			t.Errorf("%d: %d", i, errno)
		}
	}
	checkBag(t, "done", f)
	if tokens, done := f.Done(); !done || !sameRows(tokens, [][]int{{200}, {100}, {7}}) || f.Worked() != 4 {
		t.Errorf("done: %s", look(f))
	}
}

// P19.1: a frame, byte for byte, written out.
func TestBytes(t *testing.T) {
	g := plain()
	g.p.Epoch = 258
	frame := g.begin(t).Bag()[1]
	want := "\x34\x00\x00\x00" + "\x01\x00\x00\x00" + "\x00\x00\x00\x00" + "\x02\x00\x00\x00" + "\x00\x00\x00\x00" +
		"\x01\x00\x00\x00" + "\x00\x00\x00\x00" + "\x00\x00\x00\x00" + "\x01\x00\x00\x00" + "\x01\x00\x00\x00" + "\x02\x01\x00\x00" +
		"\x01\x00\x00\x00" + "\x64\x00\x00\x00"
	sum := binary.LittleEndian.AppendUint32(nil, crc32.ChecksumIEEE([]byte(want[4:])))
	if frame != want+string(sum) {
		t.Errorf("%x, not %x%x", frame, want, sum)
	}
}

// P19.1: the frames that are asked for at first: all parts of the layer 0, in
// order, each to the node that is picked by the token and the rank together.
func TestFirstFrames(t *testing.T) {
	draw := mixed(1)
	turned := map[int]int{}
	for range 400 {
		g := draw.game()
		f := g.begin(t)
		var want []api.Msg
		for _, p := range model.Parts(g.m.Layers[0], g.tokens) {
			to, ok := place.Pick(g.p, p.Expert, p.Token+p.Rank)
			if !ok {
				t.Fatalf("the test's own: %s", shown(g))
			}
			turned[len(g.p.Holders[p.Expert])]++
			want = append(want, api.Msg{Kind: 1, To: to, Batch: 1, Token: p.Token, Rank: p.Rank, Expert: p.Expert, Epoch: g.p.Epoch, Vec: g.tokens[p.Token]})
		}
		checkBag(t, shown(g), f, want...)
		if tokens, done := f.Done(); tokens != nil || done || f.Worked() != 0 {
			t.Fatalf("%s: %s", shown(g), look(f))
		}
	}
	for many := 1; many <= 4; many++ {
		if turned[many] < 100 {
			t.Errorf("parts by how many holders: %v", turned)
		}
	}
}

// P19.1: of four holders each is picked in its turn, by token and rank together.
func TestPicked(t *testing.T) {
	g := plain()
	g.m.Layers[0].Capacity = 32
	g.p.Holders = [][]int{{1, 2, 3, 4}, {1, 2, 3}}
	g.tokens = slices.Repeat([][]int{{9}}, 16)
	for i, a := range messages(t, g.begin(t)) {
		token, rank := i/2, i%2
		to := []int{1 + token%4, 1 + (token+1)%3}[rank]
		if a.Token != token || a.Rank != rank || a.Expert != rank || a.To != to {
			t.Errorf("%d: %+v, not to %d", i, a, to)
		}
	}
}

func nothing(t *testing.T, what string, g game) {
	t.Helper()
	was := g.apart()
	for range 2 {
		if f, errno := New(g.m, g.p, g.tokens); f != nil || errno != api.ErrArg {
			t.Errorf("%s: %v, %d", what, f, errno)
		}
	}
	if !reflect.DeepEqual(g, was) {
		t.Errorf("%s: %s, not %s any more", what, shown(g), shown(was))
	}
}

// spoiled is a game of three layers, of which 2, 8 and 1 experts, to be spoiled.
func spoiled(spoil func(g *game)) game {
	draw := mixed(77)
	g := draw.made(3, 5, 2, 8, 1)
	spoil(&g)
	return g
}

// beyond are the numbers that are not held.
func beyond() []int {
	return []int{most + 1, -most - 1, -most - 2, 1 << 32, 1<<32 + 1, -1 << 32, math.MaxInt, math.MinInt}
}

// P19.1: ErrArg, and nothing else, for a model that is not right.
func TestWrongModels(t *testing.T) {
	spoiled(func(*game) {}).begin(t)
	wrong := func(what string, spoil func(m *api.Model)) {
		t.Helper()
		g := spoiled(func(g *game) { spoil(&g.m) })
		if model.Right(g.m) {
			t.Fatalf("the test's own: %s", what)
		}
		nothing(t, what, g)
	}
	for _, dim := range []int{math.MinInt, -3, 0, 1, 2, 4, 9, 1<<32 + 3, math.MaxInt} {
		wrong("Dim", func(m *api.Model) { m.Dim = dim })
	}
	wrong("all of nothing", func(m *api.Model) { *m = api.Model{} })
	wrong("no layer", func(m *api.Model) { m.Layers = nil })
	wrong("a fifth layer", func(m *api.Model) { m.Layers = append(m.Layers, m.Layers[0], m.Layers[0]) })
	for at := range 3 {
		for _, capacity := range []int{math.MinInt, -1, 0, 33, 1<<32 + 1, math.MaxInt} {
			wrong("Capacity", func(m *api.Model) { m.Layers[at].Capacity = capacity })
		}
		wrong("no expert", func(m *api.Model) { m.Layers[at] = api.Layer{Capacity: 1} })
		wrong("no Gate", func(m *api.Model) { m.Layers[at].Gate = nil })
		wrong("a row more", func(m *api.Model) { m.Layers[at].Gate = append(m.Layers[at].Gate, []int{0, 0, 0}) })
		wrong("a row too short", func(m *api.Model) { m.Layers[at].Gate[0] = []int{1, 2} })
		wrong("no In", func(m *api.Model) { m.Layers[at].Experts[0].In = nil })
		wrong("Out too short", func(m *api.Model) { m.Layers[at].Experts[0].Out = m.Layers[at].Experts[0].Out[1:] })
		for _, n := range beyond() {
			wrong("a number of the Gate", func(m *api.Model) { m.Layers[at].Gate[0][2] = n })
			wrong("a number of In", func(m *api.Model) { m.Layers[at].Experts[0].In[0][1] = n })
			wrong("a number of Out", func(m *api.Model) { m.Layers[at].Experts[0].Out[2][0] = n })
		}
	}
	draw := mixed(9)
	wrong("nine experts", func(m *api.Model) { m.Layers[1] = draw.layer(3, 9) })
}

// P19.1: ErrArg, and nothing else, for tokens that are not right.
func TestWrongTokens(t *testing.T) {
	wrong := func(what string, tokens [][]int) {
		t.Helper()
		nothing(t, what, spoiled(func(g *game) { g.tokens = tokens }))
	}
	three := []int{1, 2, 3}
	wrong("none", nil)
	wrong("none", [][]int{})
	for _, many := range []int{17, 18, 64, 1000} {
		wrong("too many", slices.Repeat([][]int{three}, many))
	}
	for _, many := range []int{1, 2, 15, 16} {
		g := spoiled(func(g *game) { g.tokens = slices.Repeat([][]int{three}, many) })
		drain(t, g.begin(t))
	}
	for at := range 3 {
		for _, token := range [][]int{nil, {}, {1}, {1, 2}, {1, 2, 3, 4}, make([]int, 1000)} {
			l := [][]int{three, three, three}
			l[at] = token
			wrong("of another Dim", l)
		}
		for _, n := range beyond() {
			l := [][]int{three, three, {4, 5, 6}}
			l[2][at] = n
			wrong("not held", l)
		}
		for _, n := range []int{most, -most} {
			l := [][]int{three, three, {4, 5, 6}}
			l[2][at] = n
			spoiled(func(g *game) { g.tokens = l }).begin(t)
		}
	}
}

// P19.1: ErrArg, and nothing else, for a map that is not right.
func TestWrongMaps(t *testing.T) {
	wrong := func(what string, spoil func(p *place.Map)) {
		t.Helper()
		g := spoiled(func(g *game) { spoil(&g.p) })
		nothing(t, what, g)
	}
	for _, epoch := range []int{math.MinInt, -1 << 32, -1, most + 1, 1 << 32, math.MaxInt} {
		wrong("Epoch", func(p *place.Map) { p.Epoch = epoch })
	}
	for _, epoch := range []int{0, 1, most - 1, most} {
		spoiled(func(g *game) { g.p.Epoch = epoch }).begin(t)
	}
	wrong("all of nothing", func(p *place.Map) { *p = place.Map{} })
	wrong("nine experts", func(p *place.Map) { p.Holders = append(p.Holders, []int{1}) })
	for at := range 8 {
		for _, nodes := range [][]int{nil, {}, {0}, {5}, {-1}, {0, 1}, {4, 5}, {2, 1}, {1, 1}, {1, 2, 2}, {1, 2, 3, 4, 5}, {math.MinInt, 1}, {1, math.MaxInt}} {
			wrong(fmt.Sprint(nodes), func(p *place.Map) { p.Holders[at] = nodes })
		}
	}
}

// P19.1: ErrArg, and nothing else, for a map that has fewer Holders than a layer
// has experts, whichever layer that is.
func TestFewHolders(t *testing.T) {
	draw := mixed(5)
	for layers := 1; layers <= 4; layers++ {
		for great := range layers {
			for most := 1; most <= 8; most++ {
				experts := make([]int, layers)
				for i := range experts {
					experts[i] = 1 + draw.next(most)
				}
				experts[great] = most
				for many := 0; many <= 8; many++ {
					g := draw.made(2, 3, experts...)
					g.p.Holders = slices.Repeat([][]int{{1, 3}}, many)
					if many < most {
						nothing(t, fmt.Sprint(experts, many), g)
					} else {
						g.begin(t)
					}
				}
			}
		}
	}
}

// P19.1: where several things are wrong it is ErrArg as well.
func TestAllWrong(t *testing.T) {
	nothing(t, "all of nothing", game{})
	nothing(t, "tokens and map", spoiled(func(g *game) { g.p, g.tokens = place.Map{}, nil }))
	nothing(t, "model and map", spoiled(func(g *game) { g.m.Dim, g.p.Epoch = 0, -1 }))
	nothing(t, "a model of no layer, and a map of no expert", game{m: api.Model{Dim: 1}, tokens: [][]int{{1}}})
}

// P19.1: Ask asks for just the parts that were not answered yet, in order.
func TestAskForTheOthers(t *testing.T) {
	g := wide()
	first := messages(t, g.begin(t))
	if len(first) != 32 {
		t.Fatalf("the test's own: %d parts", len(first))
	}
	draw := mixed(32)
	for round := range 60 {
		f := g.begin(t)
		want := slices.Clone(first)
		empty(t, f)
		for range round % 32 {
			i := draw.next(len(want))
			lay(f, bytesOf(want[i]))
			f.Deliver(0)
			f.Deliver(0)
			want = slices.Delete(want, i, i+1)
		}
		if len(f.Bag()) != 0 {
			t.Fatalf("frames are left: %s", look(f))
		}
		f.Ask()
		checkBag(t, "asked", f, want...)
		f.Ask()
		checkBag(t, "asked again", f, slices.Concat(want, want)...)
	}
}

// P19.1: Ask asks by the map of that time: its Epoch, and who is picked by it.
func TestAskByTheMap(t *testing.T) {
	f := two().begin(t)
	for i, c := range []struct {
		add       bool
		x, node   int
		epoch     int
		to        [4]int
		worksWith int
	}{
		{true, 0, 3, 6, [4]int{1, 2, 2, 1}, 0},
		{true, 1, 4, 7, [4]int{1, 2, 2, 4}, 0},
		{false, 0, 1, 8, [4]int{2, 2, 3, 4}, 0},
		{false, 1, 2, 9, [4]int{2, 4, 3, 1}, 0},
		{false, 1, 1, 10, [4]int{2, 4, 3, 4}, 0},
		{false, 0, 2, 11, [4]int{3, 4, 3, 4}, 0},
		{true, 0, 1, 12, [4]int{1, 4, 3, 4}, 0},
	} {
		turn := f.Retire
		if c.add {
			turn = f.Add
		}
		if errno := turn(c.x, c.node); errno != api.OK {
			t.Fatalf("%d: %d", i, errno)
		}
		asked(t, f)
		checkBag(t, fmt.Sprint(i), f, ask(c.to[0], 0, 0, 0, 0, c.epoch, 100), ask(c.to[1], 0, 0, 1, 1, c.epoch, 100), ask(c.to[2], 0, 1, 0, 0, c.epoch, 50), ask(c.to[3], 0, 1, 1, 1, c.epoch, 50))
	}
	drain(t, f)
	checkDone(t, two(), f)
}

// P19.1: where it is done there is nothing to ask for.
func TestAskWhereDone(t *testing.T) {
	for _, g := range []game{plain(), two(), wide()} {
		f := g.begin(t)
		drain(t, f)
		checkDone(t, g, f)
		worked := f.Worked()
		for range 3 {
			f.Ask()
			checkBag(t, "done", f)
		}
		f.Add(0, 4)
		f.Retire(0, 1)
		f.Ask()
		checkBag(t, "done, and turned", f)
		if f.Worked() != worked {
			t.Errorf("%d entries, not %d", f.Worked(), worked)
		}
		checkDone(t, g, f)
	}
}

// fill lays copies of the frame at 0 behind, till the bag is full.
func fill(t *testing.T, f *Fleet) {
	t.Helper()
	for len(f.Bag()) < 200 {
		if errno := f.Twice(0); errno != api.OK {
			t.Fatalf("Twice(0) of %d: %d", len(f.Bag()), errno)
		}
	}
}

// P19.2: Deliver, Drop and Twice say ErrNone where there is no frame, and nothing
// has changed.
func TestNoFrame(t *testing.T) {
	bags := map[string]func(f *Fleet){
		"at first": func(f *Fleet) {},
		"empty":    func(f *Fleet) { empty(t, f) },
		"one":      func(f *Fleet) { empty(t, f); f.Ask(); f.Drop(0); f.Drop(0); f.Drop(0) },
		"full":     func(f *Fleet) { fill(t, f) },
		"done":     func(f *Fleet) { drain(t, f) },
	}
	for what, lead := range bags {
		f := two().begin(t)
		lead(f)
		was, many := look(f), len(f.Bag())
		for _, i := range []int{math.MinInt, -1 << 32, -201, -200, -2, -1, many, many + 1, many + 200, 200, 201, most, 1 << 32, math.MaxInt} {
			for name, call := range map[string]func(int) api.Errno{"Deliver": f.Deliver, "Drop": f.Drop, "Twice": f.Twice} {
				if errno := call(i); errno != api.ErrNone || !look(f).same(was) {
					t.Errorf("%s: %s(%d) of %d: %d, %s", what, name, i, many, errno, look(f))
				}
			}
		}
		f.Ask()
		drain(t, f)
		checkDone(t, two(), f)
	}
}

// P19.2: Drop: just that frame is gone.
func TestDrop(t *testing.T) {
	for i := range 32 {
		f := wide().begin(t)
		want := slices.Delete(f.Bag(), i, i+1)
		if errno := f.Drop(i); errno != api.OK || !slices.Equal(f.Bag(), want) || f.Worked() != 0 {
			t.Errorf("Drop(%d): %d, %s", i, errno, look(f))
		}
	}
}

// P19.2: Twice: the frame once more, behind; of a full bag nothing, and no error.
func TestTwice(t *testing.T) {
	f := wide().begin(t)
	want := f.Bag()
	draw := mixed(2)
	for len(want) < 200 {
		i := draw.next(len(want))
		want = append(want, want[i])
		if errno := f.Twice(i); errno != api.OK || !slices.Equal(f.Bag(), want) || f.Worked() != 0 {
			t.Fatalf("Twice(%d): %d, %s", i, errno, look(f))
		}
	}
	for i := range 200 {
		if errno := f.Twice(i); errno != api.OK || !slices.Equal(f.Bag(), want) {
			t.Fatalf("full, Twice(%d): %d, %d frames", i, errno, len(f.Bag()))
		}
	}
	f.Drop(7)
	want = append(slices.Delete(want, 7, 8), want[198])
	if errno := f.Twice(198); errno != api.OK || !slices.Equal(f.Bag(), want) {
		t.Errorf("full again: %d, %d frames", errno, len(f.Bag()))
	}
}

// deliverOnly lays a frame behind those of f, delivers it, and tells what came
// behind it in the bag.
func deliverOnly(t *testing.T, what string, f *Fleet, frame string) []api.Msg {
	t.Helper()
	was := f.Bag()
	lay(f, frame)
	if errno := f.Deliver(len(was)); errno != api.OK {
		t.Fatalf("%s: %d", what, errno)
	}
	now := f.Bag()
	if len(now) < len(was) || !slices.Equal(now[:len(was)], was) {
		t.Fatalf("%s: %s", what, look(f))
	}
	var all []api.Msg
	for _, s := range now[len(was):] {
		a, ok := read(s)
		if !ok {
			t.Fatalf("%s: no message: %x", what, s)
		}
		all = append(all, a)
	}
	return all
}

// checkLost: a frame is delivered, and that is all.
func checkLost(t *testing.T, what string, f *Fleet, frame string) {
	t.Helper()
	was := look(f)
	open := missing(f)
	if all := deliverOnly(t, what, f, frame); len(all) != 0 || !look(f).same(was) || !slices.Equal(missing(f), open) {
		t.Fatalf("%s: %s, not %s", what, look(f), was)
	}
}

// missing is what a fleet like f would ask for.
func missing(f *Fleet) []string {
	twin := *f
	twin.frames = nil
	twin.Ask()
	return twin.Bag()
}

// P19.2: what is no message is gone, and that is all.
func TestDeliverNoMessage(t *testing.T) {
	f := two().begin(t)
	asks := messages(t, f)
	answer := bytesOf(said(asks[0], 2, 5, 100))
	frames := []string{"", "\x00", "abc", "abcd", answer[:len(answer)-1], answer[:len(answer)-4], answer[1:], answer[4:], answer + "\x00", answer + "\x00\x00\x00\x00", answer + answer, string(make([]byte, 52)), string(make([]byte, 56)), string(make([]byte, 5000))}
	for _, s := range []string{answer, f.Bag()[0]} {
		for bit := range 8 * len(s) {
			b := []byte(s)
			b[bit/8] ^= 1 << (bit % 8)
			frames = append(frames, string(b))
		}
	}
	for _, k := range []int{0, 5, -1, 1 << 31} {
		a, b := asks[0], said(asks[0], 2, 5, 100)
		a.Kind, b.Kind = k, k
		frames = append(frames, bytesOf(a), bytesOf(b))
	}
	for _, field := range fields(&api.Msg{}) {
		a, b := asks[0], said(asks[0], 2, 5, 100)
		*fields(&a)[field.at].to, *fields(&b)[field.at].to = -1, most+1
		frames = append(frames, bytesOf(a), bytesOf(b))
	}
	a := asks[0]
	a.Vec = make([]int, 9)
	for _, s := range append(frames, bytesOf(a)) {
		if _, ok := read(s); ok {
			t.Fatalf("the test's own: %x", s)
		}
		checkLost(t, fmt.Sprintf("%x", s), f, s)
	}
	drain(t, f)
	checkDone(t, two(), f)
}

// field is one of a message's numbers.
type field struct {
	name string
	at   int
	to   *int
}

func fields(a *api.Msg) []field {
	return []field{
		{"From", 0, &a.From}, {"To", 1, &a.To}, {"Seq", 2, &a.Seq}, {"Batch", 3, &a.Batch}, {"Layer", 4, &a.Layer},
		{"Token", 5, &a.Token}, {"Rank", 6, &a.Rank}, {"Expert", 7, &a.Expert}, {"Epoch", 8, &a.Epoch}, {"Kind", 9, &a.Kind},
	}
}

// P19.2: a message for a node from 1 to 4 is worked on by that node, and the
// bytes of what it says are put into the bag, at its end.
func TestDeliverToNodes(t *testing.T) {
	g := two()
	g.p.Holders = [][]int{{1, 2, 3}, {4}}
	for to := 1; to <= 4; to++ {
		for expert := range 2 {
			f := g.begin(t)
			for i, c := range []struct{ from, seq, batch, layer, token, rank, number int }{
				{0, 0, 1, 0, 0, 0, 100}, {0, 0, 1, 1, 0, 0, 30}, {3, 9, 1, 0, 3, 1, -100}, {most, most, most, 1, most, most, one}, {0, 1, 2, 0, 0, 0, 5}, {to, 0, 0, 0, 0, 0, 6},
			} {
				a := api.Msg{Kind: 1, From: c.from, To: to, Seq: c.seq, Batch: c.batch, Layer: c.layer, Token: c.token, Rank: c.rank, Expert: expert, Epoch: 5, Vec: []int{c.number}}
				want, worked := said(a, 2, 5, max(0, c.number*(1+expert))), i+1
				if (expert == 1) != (to == 4) {
					want, worked = said(a, 3, 5), 0
				}
				for _, what := range []string{"asked", "asked again"} {
					if all := deliverOnly(t, what, f, bytesOf(a)); len(all) != 1 || bytesOf(all[0]) != bytesOf(want) || f.Worked() != worked {
						t.Fatalf("%s: %+v: %+v, not %+v, %d entries", what, a, all, want, f.Worked())
					}
				}
				for _, epoch := range []int{0, 4, 6, most} {
					b := a
					b.Epoch = epoch
					want := said(b, 3, 5)
					if all := deliverOnly(t, "another epoch", f, bytesOf(b)); len(all) != 1 || bytesOf(all[0]) != bytesOf(want) || f.Worked() != worked {
						t.Fatalf("%+v: %+v, not %+v", b, all, want)
					}
				}
			}
		}
	}
}

// P19.2: each node has a ledger of its own, from which it answers.
func TestLedgers(t *testing.T) {
	g := two()
	g.p.Holders = [][]int{{1, 2, 3, 4}, {1, 2, 3, 4}}
	f := g.begin(t)
	for round := range 3 {
		for node := 1; node <= 4; node++ {
			a := ask(node, 0, 1, 0, 1, 5, 10*node+round)
			want := said(a, 2, 5, 20*node)
			if all := deliverOnly(t, "asked", f, bytesOf(a)); len(all) != 1 || bytesOf(all[0]) != bytesOf(want) || f.Worked() != min(4, 4*round+node) {
				t.Fatalf("%+v: %+v, not %+v, %d entries", a, all, want, f.Worked())
			}
		}
	}
}

// P19.2: what a node does not work on says nothing.
func TestDeliverWhatIsNotWorkedOn(t *testing.T) {
	f := two().begin(t)
	for to := 1; to <= 4; to++ {
		for _, c := range []struct{ kind, layer, expert int }{{2, 0, 0}, {3, 0, 0}, {4, 0, 0}, {1, 2, 0}, {1, most, 0}, {1, 0, 2}, {1, 1, 8}, {1, 0, most}} {
			a := ask(to, c.layer, 0, 0, c.expert, 5, 100)
			a.Kind = c.kind
			checkLost(t, fmt.Sprintf("%+v", a), f, bytesOf(a))
		}
		for _, vec := range [][]int{nil, {1, 2}, make([]int, 8), {-most - 1}} {
			a := ask(to, 0, 0, 0, 0, 5, 0)
			a.Vec = vec
			checkLost(t, fmt.Sprintf("%+v", a), f, bytesOf(a))
		}
	}
}

// P19.2: what is for no node is gone, and that is all.
func TestDeliverToOthers(t *testing.T) {
	f := two().begin(t)
	for _, a := range messages(t, f) {
		for kind := 1; kind <= 4; kind++ {
			for _, to := range []int{5, 6, 7, 8, 9, 256, 257, 65536, most - 1, most} {
				b := said(a, kind, 5, 100)
				b.To = to
				checkLost(t, fmt.Sprintf("%+v", b), f, bytesOf(b))
				a.Kind, a.To = kind, to
				checkLost(t, fmt.Sprintf("%+v", a), f, bytesOf(a))
			}
		}
	}
}

// P19.2: what is for 0, but no Answer of Batch 1, of the layer, of a part, and of
// Dim numbers, is gone, and that is all.
func TestDeliverForHome(t *testing.T) {
	g := wide()
	f := g.begin(t)
	for layer := range 3 {
		asks := asked(t, f)
		for _, a := range asks {
			right := said(a, 2, a.Epoch, 1, 2)
			for _, kind := range []int{1, 3, 4} {
				b := right
				b.Kind = kind
				checkLost(t, "another Kind", f, bytesOf(b))
			}
			for _, at := range []int{3, 4, 5, 6, 7} {
				for _, n := range []int{0, 1, 2, 3, 7, 8, 15, 16, 17, 257, 1 << 16, most} {
					b := right
					if *fields(&b)[at].to = n; *fields(&b)[at].to == *fields(&right)[at].to || isPart(asks, b) {
						continue
					}
					checkLost(t, fmt.Sprintf("%+v", b), f, bytesOf(b))
				}
			}
			for _, vec := range [][]int{nil, {1}, {1, 2, 3}, make([]int, 8)} {
				b := right
				b.Vec = vec
				checkLost(t, "of another length", f, bytesOf(b))
			}
		}
		if tokens, done := f.Done(); tokens != nil || done || asks[0].Layer != layer {
			t.Fatalf("layer %d: %s", layer, look(f))
		}
		empty(t, f)
		for _, a := range asks {
			lay(f, bytesOf(a))
		}
		for range 64 {
			f.Deliver(0)
		}
	}
	checkDone(t, g, f)
}

// isPart: is a message of a part that is asked for?
func isPart(asks []api.Msg, b api.Msg) bool {
	return b.Batch == 1 && slices.ContainsFunc(asks, func(a api.Msg) bool {
		return a.Layer == b.Layer && a.Token == b.Token && a.Rank == b.Rank && a.Expert == b.Expert
	})
}

// P19.2: just the part that an Answer is of is answered, whoever says it, in
// whichever Epoch, and with whichever Seq; and just once.
func TestAnswered(t *testing.T) {
	g := wide()
	first := messages(t, g.begin(t))
	for i, a := range first {
		for _, c := range []struct{ from, seq, epoch int }{{a.To, 0, 40}, {0, 0, 40}, {4, 1, 39}, {5, most, 41}, {most, 7, 0}, {1, 2, most}} {
			f := g.begin(t)
			b := said(a, 2, c.epoch, 1, 2)
			b.From, b.Seq = c.from, c.seq
			if all := deliverOnly(t, "an Answer", f, bytesOf(b)); len(all) != 0 || f.Worked() != 0 {
				t.Fatalf("%+v: %+v", b, all)
			}
			want := slices.Delete(slices.Clone(first), i, i+1)
			asked(t, f)
			checkBag(t, fmt.Sprintf("%+v", b), f, want...)
			b.Vec = []int{3, 4}
			checkLost(t, "an Answer once more", f, bytesOf(b))
			checkLost(t, "Stale behind it", f, bytesOf(said(a, 3, 40)))
		}
	}
}

// P19.2: a part is answered by Vec, the first one that came, also where its
// numbers are no expert's; the tokens are combined with it.
func TestAnsweredByVec(t *testing.T) {
	g := plain()
	f := g.begin(t)
	asks := messages(t, f)
	empty(t, f)
	vecs := []int{-most - 1, most, 3 * one, -one}
	for i, a := range asks {
		for _, n := range []int{vecs[i], 5, -5} {
			if _, done := f.Done(); done {
				t.Fatalf("%d: done already", i)
			}
			if i < 3 || n == vecs[i] {
				deliverOnly(t, "an Answer", f, bytesOf(said(a, 2, 0, n)))
			}
			if i == 3 {
				break
			}
		}
	}
	want := model.Combine(g.tokens, model.Parts(g.m.Layers[0], g.tokens), [][]int{{vecs[0]}, {vecs[1]}, {vecs[2]}, {vecs[3]}})
	if got, done := f.Done(); !done || !sameRows(got, want) || f.Worked() != 0 {
		t.Errorf("%v, %t, not %v", got, done, want)
	}
}

// P19.2: Answers of the layers ahead, and of those behind, count not, now or
// later; nor do any where it is done.
func TestAnswersOfOtherLayers(t *testing.T) {
	g := two()
	f := g.begin(t)
	first := messages(t, f)
	late := func(layer int) {
		t.Helper()
		for _, a := range first {
			for other := range 5 {
				a.Layer = other
				if other != layer {
					checkLost(t, fmt.Sprintf("%+v at %d", a, layer), f, bytesOf(said(a, 2, 5, 12345)))
				}
			}
		}
	}
	late(0)
	for range 8 {
		f.Deliver(0)
	}
	second := messages(t, f)
	if len(second) != 4 || second[0].Layer != 1 {
		t.Fatalf("the second layer: %s", look(f))
	}
	late(1)
	drain(t, f)
	late(2)
	late(7)
	checkDone(t, g, f)
}

// P19.2: Stale ones answer nothing, and nothing is asked again for them.
func TestDeliverStale(t *testing.T) {
	f := two().begin(t)
	asks := messages(t, f)
	if errno := f.Add(1, 3); errno != api.OK {
		t.Fatalf("Add: %d", errno)
	}
	var want []api.Msg
	for i, a := range asks {
		f.Deliver(0)
		want = append(want, said(a, 3, 6))
		checkBag(t, "asked by an old map", f, slices.Concat(asks[i+1:], want)...)
	}
	for i := range want {
		f.Deliver(0)
		checkBag(t, "Stale", f, want[i+1:]...)
	}
	if _, done := f.Done(); done || f.Worked() != 0 {
		t.Errorf("Stale: %s", look(f))
	}
	asked(t, f)
	drain(t, f)
	checkDone(t, two(), f)
}

// P19.2: the layers one behind the other: with the last answer, and not ahead of
// it, the next one's parts are asked for, all, in order, behind what is there.
func TestComesOn(t *testing.T) {
	draw := mixed(11)
	for range 60 {
		g := draw.game()
		f := g.begin(t)
		tokens := g.tokens
		for at, l := range g.m.Layers {
			parts := model.Parts(l, tokens)
			all := messages(t, f)
			if len(all) != len(parts) {
				t.Fatalf("%s: layer %d: %s", shown(g), at, look(f))
			}
			for i, p := range parts {
				to, _ := place.Pick(g.p, p.Expert, p.Token+p.Rank)
				want := api.Msg{Kind: 1, To: to, Batch: 1, Layer: at, Token: p.Token, Rank: p.Rank, Expert: p.Expert, Epoch: g.p.Epoch, Vec: tokens[p.Token]}
				if bytesOf(all[i]) != bytesOf(want) {
					t.Fatalf("%s: layer %d: %+v, not %+v", shown(g), at, all[i], want)
				}
			}
			for i := range 2 * len(parts) {
				if _, done := f.Done(); done || len(f.Bag()) != min(len(parts), 2*len(parts)-i) {
					t.Fatalf("%s: layer %d: %d: %s", shown(g), at, i, look(f))
				}
				f.Deliver(0)
			}
			tokens, _ = model.Forward(api.Model{Dim: g.m.Dim, Layers: []api.Layer{l}}, tokens)
		}
		if len(f.Bag()) != 0 {
			t.Fatalf("%s: done: %s", shown(g), look(f))
		}
		checkDone(t, g, f)
	}
}

// P19.1, P19.2: of what is put into a full bag nothing is there, of what is put
// into one that has room for some just the first ones.
func TestFullBag(t *testing.T) {
	g := wide()
	for room := range 40 {
		f := g.begin(t)
		asks := f.Bag()
		fill(t, f)
		for range room {
			f.Drop(len(f.Bag()) - 1)
		}
		want := slices.Concat(f.Bag(), asks[:min(room, 32)])
		if f.Ask(); !slices.Equal(f.Bag(), want) {
			t.Fatalf("room for %d: %d frames", room, len(f.Bag()))
		}
	}
}

// P19.2: an ask that is delivered leaves room for what is said to it, also in a
// full bag.
func TestFullBagAnswers(t *testing.T) {
	g := wide()
	f := g.begin(t)
	fill(t, f)
	for i := range 100 {
		was := f.Bag()
		a, ok := read(was[i])
		x, ran := expert.Run(g.m.Layers[0].Experts[a.Expert], a.Vec)
		if !ok || !ran || a.Kind != 1 {
			t.Fatalf("the test's own: %+v", a)
		}
		want := append(slices.Delete(was, i, i+1), bytesOf(said(a, 2, 40, x...)))
		if errno := f.Deliver(i); errno != api.OK || !slices.Equal(f.Bag(), want) {
			t.Fatalf("%d: %d, %d frames, %s", i, errno, len(f.Bag()), look(f))
		}
	}
}

// P19.2: the last answer in a full bag makes room for the next layer's first
// part alone; the others are asked for again.
func TestFullBagComesOn(t *testing.T) {
	g := wide()
	f := g.begin(t)
	asks := messages(t, f)
	for range 63 {
		f.Deliver(0)
	}
	last := f.Bag()
	if len(last) != 1 {
		t.Fatalf("the test's own: %s", look(f))
	}
	fill(t, f)
	if errno := f.Deliver(199); errno != api.OK {
		t.Fatal(errno)
	}
	tokens, _ := model.Forward(api.Model{Dim: 2, Layers: g.m.Layers[:1]}, g.tokens)
	p := model.Parts(g.m.Layers[1], tokens)[0]
	to, _ := place.Pick(g.p, p.Expert, p.Token+p.Rank)
	want := api.Msg{Kind: 1, To: to, Batch: 1, Layer: 1, Token: p.Token, Rank: p.Rank, Expert: p.Expert, Epoch: 40, Vec: tokens[p.Token]}
	now := f.Bag()
	if len(now) != 200 || !slices.Equal(now[:199], slices.Repeat(last, 199)) || now[199] != bytesOf(want) {
		t.Fatalf("%d frames, the last one %x, not %x", len(now), now[199], bytesOf(want))
	}
	if all := asked(t, f); len(all) != 32 || bytesOf(all[0]) != bytesOf(want) || f.Worked() != len(asks) {
		t.Errorf("asked again: %s", look(f))
	}
	drain(t, f)
	checkDone(t, g, f)
}

// P19.2: Add and Retire tell layer 17's errors, and turn nothing then.
func TestTurnErrors(t *testing.T) {
	g := two()
	g.p.Holders = [][]int{{1, 2}, {3}, {1, 2, 3, 4}}
	f := g.begin(t)
	was := look(f)
	for _, c := range []struct {
		x, node     int
		add, retire api.Errno
	}{
		{-1, 1, 1, 1}, {3, 1, 1, 1}, {8, 1, 1, 1}, {math.MinInt, 1, 1, 1}, {math.MaxInt, 1, 1, 1},
		{0, 0, 1, 1}, {0, 5, 1, 1}, {0, -1, 1, 1}, {0, math.MinInt, 1, 1}, {0, math.MaxInt, 1, 1}, {0, 1<<32 + 3, 1, 1}, {-1, 0, 1, 1},
		{0, 1, 5, -1}, {0, 2, 5, -1}, {0, 3, -1, 4}, {0, 4, -1, 4}, {1, 1, -1, 4}, {1, 2, -1, 4}, {1, 3, 5, 7}, {1, 4, -1, 4}, {2, 1, 5, -1}, {2, 4, 5, -1},
	} {
		for range 2 {
			if c.add >= 0 {
				if errno := f.Add(c.x, c.node); errno != c.add || !look(f).same(was) {
					t.Errorf("Add(%d, %d): %d, not %d; %s", c.x, c.node, errno, c.add, look(f))
				}
			}
			if c.retire >= 0 {
				if errno := f.Retire(c.x, c.node); errno != c.retire || !look(f).same(was) {
					t.Errorf("Retire(%d, %d): %d, not %d; %s", c.x, c.node, errno, c.retire, look(f))
				}
			}
		}
	}
	empty(t, f)
	if f.Ask(); !slices.Equal(f.Bag(), was.frames) {
		t.Errorf("the map has turned: %s, not %s", look(f), was)
	}
	drain(t, f)
	checkDone(t, g, f)
}

// P19.2: behind the Epoch 2^31 - 1 there is none, and the fleet works on.
func TestLastEpoch(t *testing.T) {
	g := two()
	g.p.Epoch = most - 1
	f := g.begin(t)
	if e, d := f.Add(0, 4), f.Add(0, 3); e != api.OK || d != api.ErrArg {
		t.Errorf("Add: %d, %d", e, d)
	}
	for node := range 6 {
		if e, d := f.Add(1, node), f.Retire(0, node); e != api.ErrArg || d != api.ErrArg {
			t.Errorf("the last epoch: %d, %d", e, d)
		}
	}
	for _, a := range asked(t, f) {
		if a.Epoch != most {
			t.Errorf("%+v", a)
		}
	}
	drain(t, f)
	checkDone(t, g, f)
}

// P19.2: the map turns while frames are on their way: those that ask by the old
// one are told Stale, those that answer still count.
func TestTurnWhileOnTheWay(t *testing.T) {
	f := two().begin(t)
	asks := messages(t, f)
	f.Deliver(0)
	f.Deliver(0)
	if errno := f.Retire(0, 1); errno != api.OK {
		t.Fatalf("Retire: %d", errno)
	}
	checkBag(t, "turned", f, asks[2], asks[3], said(asks[0], 2, 5, 100), said(asks[1], 2, 5, 200))
	f.Deliver(0)
	f.Deliver(0)
	checkBag(t, "told", f, said(asks[0], 2, 5, 100), said(asks[1], 2, 5, 200), said(asks[2], 3, 6), said(asks[3], 3, 6))
	f.Deliver(0)
	f.Deliver(0)
	f.Deliver(0)
	f.Deliver(0)
	checkBag(t, "heard", f)
	f.Ask()
	checkBag(t, "asked again", f, ask(2, 0, 1, 0, 0, 6, 50), ask(1, 0, 1, 1, 1, 6, 50))
	if f.Worked() != 2 {
		t.Errorf("%d entries", f.Worked())
	}
	drain(t, f)
	checkDone(t, two(), f)
}

// P19.2: experts that no layer has can be added and retired as well.
func TestTurnOfOtherExperts(t *testing.T) {
	g := two()
	g.p.Holders = append(g.p.Holders, []int{2}, []int{3, 4})
	f := g.begin(t)
	for i, errno := range []api.Errno{f.Add(2, 1), f.Retire(2, 2), f.Retire(3, 4), f.Add(3, 1)} {
		if errno != api.OK {
			t.Errorf("%d: %d", i, errno)
		}
	}
	if e, d := f.Retire(2, 1), f.Add(4, 1); e != api.ErrLast || d != api.ErrArg {
		t.Errorf("%d, %d", e, d)
	}
	for _, a := range asked(t, f) {
		if a.Epoch != 9 || a.To != 1+(a.Token+a.Rank)%2 {
			t.Errorf("%+v", a)
		}
	}
}

// P19.1: Worked: of one part a node has one entry, and each node that worked on
// it has one.
func TestWorked(t *testing.T) {
	g := two()
	f := g.begin(t)
	f.Ask()
	f.Ask()
	for i, want := range []int{1, 2, 3, 4, 4, 4, 4, 4, 4, 4, 4, 4} {
		if f.Deliver(0); f.Worked() != want {
			t.Errorf("%d: %d entries, not %d", i, f.Worked(), want)
		}
	}
	empty(t, f)
	for i, want := range []int{4, 6, 6, 6} {
		turn := []func(int, int) api.Errno{f.Add, f.Retire, f.Add, f.Retire}[i]
		if errno := turn(0, []int{3, 1, 1, 3}[i]); errno != api.OK {
			t.Fatalf("turn %d: %d", i, errno)
		}
		for _, a := range asked(t, f) {
			lay(f, bytesOf(a))
			f.Deliver(len(f.Bag()) - 1)
		}
		if f.Worked() != want {
			t.Errorf("turn %d: %d entries, not %d", i, f.Worked(), want)
		}
	}
}

// P19.3: where nothing is lost, and no map turns, each part is worked out once,
// its ask and its answer are delivered, and that is all.
func TestInOrder(t *testing.T) {
	draw := mixed(3)
	for range 300 {
		g := draw.game()
		f := g.begin(t)
		parts := g.parts()
		if many := drain(t, f); many != 2*parts || f.Worked() != parts {
			t.Fatalf("%s: %d frames, %d entries, of %d parts", shown(g), many, f.Worked(), parts)
		}
		checkDone(t, g, f)
	}
}

// act is one that may be done with so many frames.
func (m *mixed) act(frames, experts int) act {
	i := m.next(max(1, frames))
	switch m.next(20) {
	case 0:
		return act{what: "ask"}
	case 1, 2:
		return act{what: "drop", a: i}
	case 3, 4:
		return act{what: "twice", a: i}
	case 5:
		return act{what: "add", a: m.next(experts), b: 1 + m.next(4)}
	case 6:
		return act{what: "retire", a: m.next(experts), b: 1 + m.next(4)}
	case 7, 8, 9:
		return act{what: "deliver", a: 0}
	case 10:
		return act{what: []string{"deliver", "drop", "twice", "add", "retire"}[m.next(5)], a: m.of(-1, frames, frames+1, m.wild()), b: m.wild()}
	}
	return act{what: "deliver", a: i}
}

// P19.3, and by it P3 and P4: whatever was lost, doubled, or delivered in another
// order, and whatever was added or retired between: where it is done, the tokens
// are just the model's; and what is delivered in order, and asked for again,
// comes to an end: as soon as no map turns any more, with one Ask.
func TestExactlyTheModel(t *testing.T) {
	draw := mixed(193)
	ahead := 0
	for range 400 {
		g := draw.game()
		f := g.begin(t)
		many := draw.next(400)
		for range many {
			draw.act(len(f.Bag()), len(g.p.Holders)).on(f)
			if _, done := f.Done(); done {
				checkDone(t, g, f)
			}
		}
		if _, done := f.Done(); done {
			ahead++
		}
		drain(t, f)
		f.Ask()
		drain(t, f)
		checkDone(t, g, f)
	}
	if ahead < 20 || ahead > 380 {
		t.Errorf("%d were done ahead of the end", ahead)
	}
}

// P19.3: the same, where each act of a kind is done, over and over.
func TestEachKindOfLoss(t *testing.T) {
	g := wide()
	ways := map[string]func(f *Fleet, i int){
		"each second one is lost":     func(f *Fleet, i int) { f.Drop(i % 2) },
		"each one is doubled":         func(f *Fleet, i int) { f.Twice(0) },
		"the last one comes first":    func(f *Fleet, i int) { f.Deliver(len(f.Bag()) - 1) },
		"asked for again and again":   func(f *Fleet, i int) { f.Ask() },
		"the map turns and turns":     func(f *Fleet, i int) { f.Add(i%5, 1+i%4); f.Retire(i%5, 1+(i+1)%4) },
		"the bag is full all the way": func(f *Fleet, i int) { f.Twice(0); f.Twice(0); f.Twice(1) },
		"one expert goes round":       func(f *Fleet, i int) { f.Add(0, 1+i%4); f.Retire(0, 1+(i+3)%4) },
		"no frame of that place":      func(f *Fleet, i int) { f.Deliver(-1); f.Drop(900); f.Twice(200) },
		"experts that are not there":  func(f *Fleet, i int) { f.Add(9, 1); f.Retire(0, 5); f.Add(-1, 1) },
		"lost, doubled, and turned":   func(f *Fleet, i int) { f.Twice(1); f.Drop(i % 3); f.Add(i%5, 1+i%4); f.Ask() },
	}
	for what, way := range ways {
		t.Run(what, func(t *testing.T) {
			f := g.begin(t)
			for i := range 500 {
				way(f, i)
				f.Deliver(0)
				if _, done := f.Done(); done {
					checkDone(t, g, f)
				}
			}
			drain(t, f)
			f.Ask()
			drain(t, f)
			checkDone(t, g, f)
		})
	}
}

// P19.3: also where the map turns with each round it comes to an end, as what was
// answered stays so.
func TestTurnsWithEachRound(t *testing.T) {
	draw := mixed(91)
	for range 100 {
		g := draw.game()
		f := g.begin(t)
		for round := range 1000 {
			if _, done := f.Done(); done {
				break
			}
			f.Ask()
			f.Deliver(0)
			f.Deliver(len(f.Bag()) - 1)
			turn := []func(int, int) api.Errno{f.Add, f.Retire}[round%2]
			for turn(draw.next(len(g.p.Holders)), 1+draw.next(4)) != api.OK && draw.next(20) > 0 {
			}
			empty(t, f)
		}
		checkDone(t, g, f)
		drain(t, f)
		checkDone(t, g, f)
	}
}

// P19.2: Done tells nothing and false till the last part of the last layer is
// answered, then the tokens, whatever is done behind that.
func TestDone(t *testing.T) {
	draw := mixed(8)
	for range 60 {
		g := draw.game()
		f := g.begin(t)
		for range 2*g.parts() - 1 {
			f.Deliver(0)
			if tokens, done := f.Done(); tokens != nil || done {
				t.Fatalf("%s: %s", shown(g), look(f))
			}
		}
		answer := f.Bag()
		f.Twice(0)
		f.Deliver(0)
		checkDone(t, g, f)
		checkBag(t, "done", f, messages(t, f)...)
		if !slices.Equal(f.Bag(), answer) {
			t.Fatalf("%s: %s", shown(g), look(f))
		}
		for range 100 {
			x := draw.act(len(f.Bag()), len(g.p.Holders))
			x.on(f)
			checkDone(t, g, f)
		}
	}
}

// forged is a frame that is laid into the bag of r: one of those that are there,
// an ask, or what would be said to it, with some of it laid over.
func (m *mixed) forged(r *record) string {
	a := api.Msg{Kind: 1 + m.next(4), To: m.next(5), Batch: 1, Layer: r.layer, Epoch: r.p.Epoch, Vec: m.row(r.m.Dim)}
	if len(r.parts) > 0 {
		a = r.askOf(r.parts[m.next(len(r.parts))])
	}
	if m.next(2) == 0 {
		a = said(a, 2, a.Epoch, m.row(r.m.Dim)...)
	}
	if len(r.frames) > 0 && m.next(3) == 0 {
		a, _ = read(r.frames[m.next(len(r.frames))])
	}
	for range m.next(3) {
		if m.next(4) == 0 {
			a.Vec = m.row(m.next(9))
		} else {
			*fields(&a)[m.next(10)].to = m.of(0, 1, 2, 3, 4, 5, m.next(17), most, m.next(most))
		}
	}
	s := []byte(bytesOf(a))
	if m.next(8) == 0 {
		s[m.next(len(s))] ^= 1 << m.next(8)
	}
	if m.next(30) == 0 {
		s = s[:m.next(len(s))]
	}
	return string(s)
}

// play holds a fleet, call by call, against the chapter's words.
func play(t *testing.T, g game, many int, draw *mixed) *record {
	t.Helper()
	f, r := g.begin(t), g.record()
	check(t, act{what: "New"}, f, r)
	for range many {
		x := draw.act(len(r.frames), len(r.p.Holders))
		if draw.next(8) == 0 {
			x = act{what: "lay", frame: draw.forged(r)}
		}
		step(t, x, f, r)
	}
	return r
}

// P19.1, P19.2: drawn models, maps, tokens and acts, wrong ones among them,
// against the chapter's words.
func TestPlays(t *testing.T) {
	draw := mixed(1919)
	layers := map[int]int{}
	full, done := 0, 0
	for range 250 {
		r := play(t, draw.game(), 50+draw.next(300), &draw)
		layers[r.layer]++
		if len(r.frames) == 200 {
			full++
		}
		if _, ok := r.done(); ok {
			done++
		}
	}
	if layers[0] < 5 || layers[1] < 5 || layers[2] < 5 || done < 20 {
		t.Errorf("at the end: layers %v, %d full, %d done", layers, full, done)
	}
}

// The same, of bags that are full, or almost so.
func TestPlaysOfFullBags(t *testing.T) {
	draw := mixed(200)
	full := 0
	for range 60 {
		g := wide()
		if draw.next(2) == 0 {
			g = draw.game()
		}
		f, r := g.begin(t), g.record()
		for range 300 {
			if len(r.frames) > 0 && len(r.frames) < 200 && draw.next(3) > 0 {
				step(t, act{what: "twice", a: draw.next(len(r.frames))}, f, r)
			}
			if draw.next(30) == 0 {
				step(t, act{what: "ask"}, f, r)
			}
			step(t, draw.act(len(r.frames), len(r.p.Holders)), f, r)
			if len(r.frames) == 200 {
				full++
			}
		}
	}
	if full < 1000 {
		t.Errorf("full %d times", full)
	}
}

// P19.1: drawn games, most of them spoiled, against the chapter's words.
func TestDrawnNew(t *testing.T) {
	draw := mixed(191)
	right := 0
	for range 4000 {
		g := draw.game()
		for range draw.next(3) {
			draw.spoil(&g)
		}
		want := model.Right(g.m) && model.Tokens(g.m, g.tokens) && place.Right(g.p)
		for _, l := range g.m.Layers {
			want = want && len(l.Experts) <= len(g.p.Holders)
		}
		if !want {
			nothing(t, shown(g), g)
			continue
		}
		right++
		check(t, act{what: "New"}, g.begin(t), g.record())
	}
	if right < 1000 || right > 3000 {
		t.Errorf("%d were right", right)
	}
}

// spoil lays something else at one place of a game; it may still be right.
func (m *mixed) spoil(g *game) {
	l := &g.m.Layers[m.next(len(g.m.Layers))]
	switch m.next(12) {
	case 0:
		g.m.Dim = m.wild()
	case 1:
		l.Capacity = m.wild()
	case 2:
		l.Gate[m.next(len(l.Gate))] = m.row(m.next(10))
	case 3:
		l.Gate[m.next(len(l.Gate))] = []int{m.wild()}
	case 4:
		l.Experts = append(l.Experts, l.Experts[0])
	case 5:
		l.Experts[m.next(len(l.Experts))].In = m.rows(m.next(10), m.next(10))
	case 6:
		g.p.Epoch = m.wild()
	case 7:
		if len(g.p.Holders) > 0 {
			g.p.Holders[m.next(len(g.p.Holders))] = []int{m.next(7) - 1, m.next(7) - 1}[:m.next(3)]
		}
	case 8:
		g.p.Holders = append(g.p.Holders, []int{1, 2, 3, 4})
	case 9:
		g.p.Holders = g.p.Holders[:max(0, len(g.p.Holders)-1)]
	case 10:
		g.tokens = m.rows(m.next(19), g.m.Dim&7)
	default:
		for _, token := range g.tokens {
			if len(token) > 0 && m.next(2) == 0 {
				token[0] = m.wild()
			}
		}
	}
}

// R3: calls that tell an error change nothing: a fleet without them is at the
// same place.
func TestErrorsChangeNothing(t *testing.T) {
	draw := mixed(33)
	errors := map[api.Errno]int{}
	for range 100 {
		g := draw.game()
		f, twin := g.begin(t), g.begin(t)
		for range 150 {
			x := draw.act(len(f.Bag()), len(g.p.Holders))
			if errno := x.on(f); errno != api.OK {
				errors[errno]++
			} else {
				x.on(twin)
			}
			if !look(f).same(look(twin)) {
				t.Fatalf("%s %s: %s, not %s", shown(g), x, look(f), look(twin))
			}
		}
	}
	if len(errors) != 4 || errors[1] < 50 || errors[4] < 50 || errors[5] < 50 || errors[7] < 30 {
		t.Errorf("errors: %v", errors)
	}
}

// R4: the same acts tell the same, whatever other fleets do between.
func TestTheSameAgain(t *testing.T) {
	draw := mixed(44)
	for range 60 {
		g, h := draw.game(), draw.game()
		f, twin, other := g.begin(t), g.apart().begin(t), h.begin(t)
		for range 150 {
			x := draw.act(len(f.Bag()), len(g.p.Holders))
			e := x.on(f)
			draw.act(len(other.Bag()), len(h.p.Holders)).on(other)
			if d := x.on(twin); d != e || !look(f).same(look(twin)) {
				t.Fatalf("%s %s: %d, %s, not %d, %s", shown(g), x, d, look(twin), e, look(f))
			}
		}
	}
}

// each goes through all numbers that g can reach, up to the end of its memory.
func (g game) each(do func(n *int)) {
	layers := g.m.Layers[:cap(g.m.Layers)]
	for i := range layers {
		do(&layers[i].Capacity)
		eachOfRows(layers[i].Gate, do)
		for _, x := range layers[i].Experts[:cap(layers[i].Experts)] {
			eachOfRows(x.In, do)
			eachOfRows(x.Out, do)
		}
	}
	eachOfRows(g.p.Holders, do)
	eachOfRows(g.tokens, do)
}

func eachOfRows(rows [][]int, do func(n *int)) {
	for _, row := range rows[:cap(rows)] {
		row = row[:cap(row)]
		for i := range row {
			do(&row[i])
		}
	}
}

func (g game) seen() []int {
	var all []int
	g.each(func(n *int) { all = append(all, *n) })
	return all
}

func spoilNumber(n *int) { *n = -77777 }

// behind is l with room behind its last element, in which v stands.
func behind[T any](l []T, room int, v T) []T {
	return append(slices.Clone(l), slices.Repeat([]T{v}, room)...)[:len(l)]
}

func behindRows(rows [][]int, room int) [][]int {
	roomy := make([][]int, len(rows))
	for i, row := range rows {
		roomy[i] = behind(row, room, -900)
	}
	return behind(roomy, room, []int{-901, -902})
}

// roomy is g, in memory of its own, with room behind each of its lists.
func roomy(g game, room int) game {
	g = g.apart()
	for i := range g.m.Layers {
		l := &g.m.Layers[i]
		l.Gate = behindRows(l.Gate, room)
		for k, x := range l.Experts {
			l.Experts[k] = api.Expert{In: behindRows(x.In, room), Out: behindRows(x.Out, room)}
		}
		l.Experts = behind(l.Experts, room, api.Expert{In: [][]int{{-903}}, Out: [][]int{{-904}}})
	}
	g.m.Layers = behind(g.m.Layers, room, api.Layer{Capacity: -905})
	g.p.Holders = behindRows(g.p.Holders, room)
	g.tokens = behindRows(g.tokens, room)
	return g
}

// R1: what is handed in stays as it is, up to the end of its memory, whatever the
// fleet does then; and it is the fleet's no more, so that whoever writes into it
// turns nothing. R4: the room behind the lists counts not.
func TestWhatIsHandedInStays(t *testing.T) {
	draw := mixed(55)
	for round := range 60 {
		g := draw.game()
		handed := roomy(g, round%3)
		was := handed.seen()
		f, twin := handed.begin(t), g.begin(t)
		for range draw.of(0, 150) {
			x := draw.act(len(f.Bag()), len(g.p.Holders))
			x.on(f)
			x.on(twin)
			if !slices.Equal(handed.seen(), was) {
				t.Fatalf("%s %s: what was handed in is changed", shown(g), x)
			}
		}
		handed.each(spoilNumber)
		for range 150 {
			x := draw.act(len(f.Bag()), len(g.p.Holders))
			if e, d := x.on(f), x.on(twin); e != d || !look(f).same(look(twin)) {
				t.Fatalf("%s %s: %s, not %s", shown(g), x, look(f), look(twin))
			}
		}
	}
}

// R1: what is answered is new memory: whoever writes into it turns neither the
// fleet, nor another answer, nor what was handed in.
func TestAnswersAreNew(t *testing.T) {
	for _, g := range []game{plain(), two(), wide()} {
		handed := roomy(g, 2)
		was := handed.seen()
		f := handed.begin(t)
		kept := f.Bag()
		first := slices.Clone(kept)
		spoilFrames := func(l []string) {
			l = l[:cap(l)]
			for i := range l {
				l[i] = "spoiled"
			}
		}
		spoilFrames(f.Bag())
		if !slices.Equal(f.Bag(), first) || !slices.Equal(kept, first) {
			t.Fatalf("%s: the bag is changed", shown(g))
		}
		f.Twice(0)
		f.Deliver(0)
		spoilFrames(f.Bag())
		f.Deliver(0)
		if !slices.Equal(kept, first) {
			t.Fatalf("%s: an answer was changed by later calls", shown(g))
		}
		spoilFrames(kept)
		drain(t, f)
		f.Ask()
		drain(t, f)
		checkDone(t, g, f)
		tokens, _ := f.Done()
		keptTokens, _ := f.Done()
		eachOfRows(tokens, spoilNumber)
		for i := range tokens {
			tokens[i] = nil
		}
		checkDone(t, g, f)
		if want, _ := model.Forward(g.m, g.tokens); !sameRows(keptTokens, want) || !slices.Equal(handed.seen(), was) {
			t.Errorf("%s: what was answered, or handed in, is changed", shown(g))
		}
		for i := range keptTokens {
			rest := copiedLists(keptTokens[i+1:])
			eachOfRows(keptTokens[i:i+1:i+1], spoilNumber)
			if !sameRows(keptTokens[i+1:], rest) {
				t.Errorf("%s: the tokens share memory", shown(g))
			}
		}
	}
}

// R1: also tokens, rows and holders that are one in memory, as they are handed in,
// are worked on each by itself.
func TestSharedMemory(t *testing.T) {
	row := append(make([]int, 0, 8), one)
	rows := [][]int{row}
	x := api.Expert{In: rows, Out: rows}
	l := api.Layer{Gate: [][]int{row, row}, Experts: []api.Expert{x, x}, Capacity: 32}
	nodes := append(make([]int, 0, 8), 1)
	g := game{api.Model{Dim: 1, Layers: []api.Layer{l, l}}, place.Map{Holders: [][]int{nodes, nodes}}, [][]int{row, row, row}}
	apart := g.apart()
	f, r := g.begin(t), apart.record()
	for _, x := range []act{{what: "add", a: 0, b: 2}, {what: "deliver"}, {what: "ask"}, {what: "retire", a: 0, b: 1}, {what: "add", a: 1, b: 3}, {what: "ask"}} {
		step(t, x, f, r)
	}
	for len(r.frames) > 0 {
		step(t, act{what: "deliver"}, f, r)
	}
	checkDone(t, apart, f)
	if !reflect.DeepEqual(g, apart) {
		t.Error("what was handed in is changed")
	}
}

// P1: every call ends and none panics, at all arguments.
func TestAllArguments(t *testing.T) {
	numbers := []int{math.MinInt, -1 << 32, -1, 0, 1, 2, 3, 4, 5, 8, 9, 199, 200, 201, most, most + 1, 1 << 32, math.MaxInt}
	for _, g := range []game{plain(), two(), wide()} {
		f, r := g.begin(t), g.record()
		for _, a := range numbers {
			for _, what := range []string{"ask", "deliver", "drop", "twice"} {
				step(t, act{what: what, a: a}, f, r)
			}
			for _, b := range numbers {
				step(t, act{what: "add", a: a, b: b}, f, r)
				step(t, act{what: "retire", a: b, b: a}, f, r)
			}
		}
	}
	models := []api.Model{
		{}, {Dim: -1}, {Dim: math.MaxInt}, {Dim: 1, Layers: make([]api.Layer, 4)}, {Dim: 1, Layers: make([]api.Layer, 1000)},
		{Dim: 1, Layers: []api.Layer{{Gate: [][]int{nil}, Experts: make([]api.Expert, 1), Capacity: 1}}}, {Dim: math.MinInt, Layers: plain().m.Layers}, plain().m,
	}
	maps := []place.Map{{}, {Epoch: math.MinInt}, {Holders: make([][]int, 8)}, {Holders: make([][]int, 100000)}, {Holders: [][]int{{1}, make([]int, 100000)}}, plain().p}
	tokens := [][][]int{nil, {}, {nil}, {{}, {}}, make([][]int, 100000), {make([]int, 100000)}, {{math.MinInt}}, plain().tokens}
	for i, m := range models {
		for k, p := range maps {
			for n, l := range tokens {
				if i == len(models)-1 && k == len(maps)-1 && n == len(tokens)-1 {
					game{m, p, l}.begin(t)
				} else {
					nothing(t, fmt.Sprint(i, k, n), game{m, p, l})
				}
			}
		}
	}
}

// The greatest fleet that there is: it ends as well.
func TestGreatest(t *testing.T) {
	draw := mixed(888)
	g := draw.made(8, 16, 8, 8, 8, 8)
	for i := range g.m.Layers {
		l := &g.m.Layers[i]
		l.Capacity = 32
		for k := range l.Experts {
			l.Experts[k] = api.Expert{In: draw.rows(8, 8), Out: draw.rows(8, 8)}
		}
	}
	f, r := g.begin(t), g.record()
	for i := 0; len(r.frames) > 0; i++ {
		step(t, act{what: "deliver"}, f, r)
		if i%9 == 0 {
			step(t, act{what: "twice", a: i % 7}, f, r)
		}
	}
	if f.Worked() != 128 {
		t.Errorf("%d entries", f.Worked())
	}
	checkDone(t, g, f)
}

// FuzzFleet draws a game from a seed, and reads from bytes what is done with it:
// an act's kind in one, and its numbers in one each; then it comes to an end.
func FuzzFleet(f *testing.F) {
	f.Add(uint64(1), []byte{})
	f.Add(uint64(2), []byte{1, 0, 0, 1, 0, 0, 3, 1, 0, 0, 0, 0})
	f.Add(uint64(19), []byte{4, 0, 3, 5, 0, 1, 1, 0, 0, 0, 0, 0, 2, 4, 0})
	f.Add(uint64(1919), []byte{3, 0, 0, 3, 1, 0, 1, 2, 0, 6, 1, 1, 1, 0, 0})
	f.Fuzz(func(t *testing.T, seed uint64, data []byte) {
		draw := mixed(seed)
		g := draw.game()
		f, r := g.begin(t), g.record()
		honest := true
		for ; len(data) >= 3; data = data[3:] {
			x := act{what: []string{"ask", "deliver", "drop", "twice", "add", "retire", "lay"}[int(data[0])%7], a: int(int8(data[1])), b: int(int8(data[2]))}
			if x.what == "lay" {
				x.frame = draw.forged(r)
				honest = false
			}
			step(t, x, f, r)
		}
		for range 2 {
			for len(r.frames) > 0 {
				step(t, act{what: "deliver"}, f, r)
			}
			step(t, act{what: "ask"}, f, r)
		}
		for len(r.frames) > 0 {
			step(t, act{what: "deliver"}, f, r)
		}
		if honest {
			checkDone(t, g, f)
		}
	})
}
