package place

import (
	"bytes"
	"fmt"
	"math"
	"math/big"
	"slices"
	"testing"

	"switchboard/api"
)

const top = 1<<31 - 1

// mixed gives numbers that are always the same ones for a seed.
type mixed uint64

func (m *mixed) next(below int) int {
	*m = *m*6364136223846793005 + 1442695040888963407
	return int(uint64(*m)>>33) % below
}

// extremes are numbers around which something could turn.
func extremes() []int {
	return []int{
		math.MinInt, math.MinInt + 1, -1 << 32, -1<<32 + 1, math.MinInt32 - 1, math.MinInt32, -9, -8, -5, -4, -2, -1,
		0, 1, 2, 3, 4, 5, 6, 7, 8, 9, 10, 127, 128, 255, 256, 257, 65536, 65537, top - 2, top - 1, top, top + 1, top + 2,
		1 << 32, 1<<32 + 1, 1 << 62, math.MaxInt - 1, math.MaxInt,
	}
}

// rightLists are all that an expert's Holders can be, written out.
func rightLists() [][]int {
	return [][]int{
		{1}, {2}, {3}, {4}, {1, 2}, {1, 3}, {1, 4}, {2, 3}, {2, 4}, {3, 4},
		{1, 2, 3}, {1, 2, 4}, {1, 3, 4}, {2, 3, 4}, {1, 2, 3, 4},
	}
}

// wrongLists are Holders that are wrong, each in one way.
func wrongLists() [][]int {
	all := [][]int{
		nil, {}, make([]int, 0, 4), {0, 1}, {0, 4}, {-1, 1}, {-1, 4}, {1, 5}, {4, 5}, {1, 6}, {0, 1, 2, 3, 4}, {1, 2, 3, 4, 5}, {0, 1, 2, 3}, {2, 3, 4, 5},
		{1, 1}, {2, 2}, {3, 3}, {4, 4}, {1, 1, 2}, {1, 2, 2}, {1, 2, 2, 3}, {1, 3, 4, 4}, {1, 2, 1}, {1, 1, 1, 1}, {1, 1, 2, 3, 4}, {1, 2, 3, 4, 4}, {1, 2, 3, 4, 1},
		{2, 1}, {4, 1}, {4, 3}, {3, 2, 1}, {1, 3, 2}, {2, 1, 3}, {4, 3, 2, 1}, {1, 2, 4, 3}, {2, 1, 3, 4}, {1, 3, 2, 4}, {4, 1, 2, 3},
		{math.MinInt, 1}, {1, math.MaxInt}, {math.MaxInt, math.MinInt}, {math.MaxInt, 1}, {1, math.MinInt}, {1, 1<<32 + 2}, {-1<<32 + 1, 2},
		make([]int, 1000), slices.Repeat([]int{1}, 1000), slices.Repeat([]int{1, 2, 3, 4}, 100),
	}
	for _, n := range extremes() {
		if n < 1 || n > 4 {
			all = append(all, []int{n})
		}
	}
	return all
}

// rightEpochs and wrongEpochs are those at the edges, and beyond them.
func rightEpochs() []int { return []int{0, 1, 7, 65536, top - 2, top - 1, top} }

func wrongEpochs() []int {
	return []int{math.MinInt, math.MinInt + 1, -1 << 32, math.MinInt32, -2, -1, top + 1, top + 2, 1 << 32, 1<<32 + 5, math.MaxInt - 1, math.MaxInt}
}

// experts are so many lists, of all that are right one after the other.
func experts(many int) [][]int {
	all := make([][]int, many)
	for i := range all {
		all[i] = rightLists()[(4*i+many)%15]
	}
	return all
}

// rightOnes are maps that are right: of none, one, and up to 8 experts, each of
// them once with each list.
func rightOnes() []Map {
	var all []Map
	for _, epoch := range rightEpochs() {
		all = append(all, Map{epoch, nil}, Map{epoch, [][]int{}}, Map{epoch, make([][]int, 0, 9)})
		for many := 1; many <= 8; many++ {
			all = append(all, Map{epoch, experts(many)})
		}
	}
	for _, nodes := range rightLists() {
		all = append(all, Map{4, [][]int{nodes}}, Map{4, [][]int{{2}, nodes, {1, 3}}}, Map{4, slices.Repeat([][]int{nodes}, 8)})
	}
	return all
}

// wrongOnes are maps that are wrong, each in one way: by their Epoch, by how
// many experts there are, by the Holders of one expert at each place.
func wrongOnes() []Map {
	var all []Map
	for _, epoch := range wrongEpochs() {
		for _, many := range []int{0, 1, 2, 8} {
			all = append(all, Map{epoch, experts(many)})
		}
	}
	for _, many := range []int{9, 10, 16, 17, 256, 257, 1000} {
		all = append(all, Map{0, experts(many)}, Map{top, experts(many)})
	}
	for _, nodes := range wrongLists() {
		for _, many := range []int{1, 2, 3, 8} {
			for at := range many {
				holders := experts(many)
				holders[at] = nodes
				all = append(all, Map{3, holders})
			}
		}
	}
	return all
}

func allOnes() []Map { return append(rightOnes(), wrongOnes()...) }

// shown keeps what a test says of a map short.
func shown(m Map) string {
	return fmt.Sprintf("{%d %.150s (%d)}", m.Epoch, fmt.Sprint(m.Holders), len(m.Holders))
}

func same(k, m Map) bool {
	return k.Epoch == m.Epoch && slices.EqualFunc(k.Holders, m.Holders, slices.Equal[[]int])
}

// apart is a map like m, in memory of its own.
func apart(m Map) Map {
	other := Map{Epoch: m.Epoch}
	for _, nodes := range m.Holders {
		other.Holders = append(other.Holders, append([]int(nil), nodes...))
	}
	return other
}

// wantRight, wantHolds, wantPick and wantTurn are the chapter's words: Holders
// are right if they are among those that are written out, and a map that is
// turned has those nodes, from 1 to 4, that are to hold the expert.
func wantRight(m Map) bool {
	for _, nodes := range m.Holders {
		if !slices.ContainsFunc(rightLists(), func(l []int) bool { return slices.Equal(l, nodes) }) {
			return false
		}
	}
	return m.Epoch >= 0 && m.Epoch <= 2147483647 && len(m.Holders) <= 8
}

func wantHolds(m Map, expert, node int) bool {
	for i, nodes := range m.Holders {
		for _, n := range nodes {
			if i == expert && n == node {
				return true
			}
		}
	}
	return false
}

func wantPick(m Map, expert, key int) (int, bool) {
	if !wantRight(m) || expert < 0 || expert >= len(m.Holders) || key < 0 {
		return 0, false
	}
	many := big.NewInt(int64(len(m.Holders[expert])))
	return m.Holders[expert][new(big.Int).Mod(big.NewInt(int64(key)), many).Int64()], true
}

func wantTurn(m Map, expert, node int, hold bool) (Map, api.Errno) {
	if !wantRight(m) || expert < 0 || expert >= len(m.Holders) || node < 1 || node > 4 || m.Epoch == 2147483647 {
		return m, 1
	}
	holds := wantHolds(m, expert, node)
	if hold && holds {
		return m, 5
	}
	if !hold && !holds {
		return m, 4
	}
	if !hold && len(m.Holders[expert]) == 1 {
		return m, 7
	}
	turned := apart(m)
	turned.Epoch = m.Epoch + 1
	turned.Holders[expert] = nil
	for n := 1; n <= 4; n++ {
		if n == node && hold || n != node && wantHolds(m, expert, n) {
			turned.Holders[expert] = append(turned.Holders[expert], n)
		}
	}
	return turned, 0
}

// checkAsks holds Right, Holds and Pick against the chapter, two times, and what
// was handed in against what it was.
func checkAsks(t *testing.T, m Map, expert, node, key int) {
	t.Helper()
	was := apart(m)
	for range 2 {
		if got := Right(m); got != wantRight(was) {
			t.Fatalf("Right(%s): %v", shown(was), got)
		}
		if got := Holds(m, expert, node); got != wantHolds(was, expert, node) {
			t.Fatalf("Holds(%s, %d, %d): %v", shown(was), expert, node, got)
		}
		n, ok := Pick(m, expert, key)
		if want, there := wantPick(was, expert, key); n != want || ok != there {
			t.Fatalf("Pick(%s, %d, %d): %d, %v, not %d, %v", shown(was), expert, key, n, ok, want, there)
		}
		if !same(m, was) {
			t.Fatalf("%s was changed: %s", shown(was), shown(m))
		}
	}
}

// turn is Add, or Retire.
func turn(m Map, expert, node int, hold bool) (Map, api.Errno) {
	if hold {
		return Add(m, expert, node)
	}
	return Retire(m, expert, node)
}

// checkTurn holds Add, or Retire, against the chapter (P17.2 and P17.3), two
// times, and what was handed in against what it was.
func checkTurn(t *testing.T, m Map, expert, node int, hold bool) (Map, api.Errno) {
	t.Helper()
	was := apart(m)
	what := func() string { return fmt.Sprintf("turn(%s, %d, %d, %v)", shown(was), expert, node, hold) }
	want, errno := wantTurn(was, expert, node, hold)
	got, e := turn(m, expert, node, hold)
	if e != errno || !same(got, want) {
		t.Fatalf("%s: %s, %d, not %s, %d", what(), shown(got), e, shown(want), errno)
	}
	if again, f := turn(m, expert, node, hold); f != e || !same(again, got) {
		t.Fatalf("%s, once more: %s, %d, not %s, %d", what(), shown(again), f, shown(got), e)
	}
	if !same(m, was) {
		t.Fatalf("%s: the map is now %s", what(), shown(m))
	}
	if Right(was) && !Right(got) {
		t.Fatalf("%s: not right any more: %s", what(), shown(got))
	}
	if got.Epoch < was.Epoch || len(got.Holders) != len(was.Holders) {
		t.Fatalf("%s: %s", what(), shown(got))
	}
	return got, e
}

// P17.2: the chapter's example.
func TestExample(t *testing.T) {
	m := Map{0, [][]int{{1}}}
	for i, c := range []struct {
		hold bool
		node int
		want []int
		e    api.Errno
	}{{true, 2, []int{1, 2}, 0}, {false, 1, []int{2}, 0}, {false, 2, []int{2}, 7}} {
		got, e := checkTurn(t, m, 0, c.node, c.hold)
		if e != c.e || !same(got, Map{min(i+1, 2), [][]int{c.want}}) {
			t.Fatalf("step %d: %s, %d", i, shown(got), e)
		}
		m = got
	}
}

// P17.1: maps that are right, and maps that are wrong.
func TestRight(t *testing.T) {
	if !Right(Map{}) {
		t.Error("Right of the zero value: false")
	}
	for _, m := range rightOnes() {
		if !wantRight(m) {
			t.Fatalf("the test's own: %s", shown(m))
		}
		if !Right(m) {
			t.Errorf("Right(%s): false", shown(m))
		}
	}
	for _, m := range wrongOnes() {
		if wantRight(m) {
			t.Fatalf("the test's own: %s", shown(m))
		}
		if Right(m) {
			t.Errorf("Right(%s): true", shown(m))
		}
	}
}

// P17.1: what an Epoch may be, and how many experts there may be.
func TestRightLimits(t *testing.T) {
	for epoch, right := range map[int]bool{
		math.MinInt: false, math.MinInt32: false, -1: false, 0: true, 1: true, 2147483646: true,
		2147483647: true, 2147483648: false, 1 << 32: false, math.MaxInt: false,
	} {
		if Right(Map{epoch, nil}) != right || Right(Map{epoch, [][]int{{1, 4}}}) != right {
			t.Errorf("Epoch %d: not %v", epoch, right)
		}
	}
	for many := range 20 {
		if got := Right(Map{1, slices.Repeat([][]int{{2}}, many)}); got != (many <= 8) {
			t.Errorf("%d experts: %v", many, got)
		}
	}
	if api.MaxExperts != 8 || api.MaxNodes != 4 || api.Top != top {
		t.Errorf("the limits: %d, %d, %d", api.MaxExperts, api.MaxNodes, api.Top)
	}
}

// P17.1: each list of up to five numbers from -1 to 6 is right just if it is one
// of those that are written out; so is one of each two extremes.
func TestRightOfEachList(t *testing.T) {
	many := 0
	check := func(nodes []int) {
		for _, m := range []Map{{0, [][]int{nodes}}, {9, [][]int{{1}, nodes}}, {9, [][]int{nodes, {4}}}} {
			if Right(m) != wantRight(m) {
				t.Fatalf("Right(%s): %v", shown(m), Right(m))
			}
		}
		if Right(Map{0, [][]int{nodes}}) {
			many++
		}
	}
	var grow func(nodes []int)
	grow = func(nodes []int) {
		check(nodes)
		for n := -1; n <= 6 && len(nodes) < 5; n++ {
			grow(append(slices.Clone(nodes), n))
		}
	}
	grow(nil)
	if many != 15 {
		t.Errorf("%d lists are right", many)
	}
	for _, a := range extremes() {
		for _, b := range extremes() {
			check([]int{a, b})
			check([]int{1, a, b})
		}
	}
}

// P17.1: Holds, written out: also a map that is not right tells.
func TestHoldsWrittenOut(t *testing.T) {
	right := Map{4, [][]int{{1, 3}, {2}, {1, 2, 3, 4}}}
	wrong := Map{-1, [][]int{{3, 1, 3}, nil, {}, {0, 5, -1, math.MinInt, math.MaxInt}, {2, 2}, {4}, {4}, {4}, {4}, {3}}}
	for _, c := range []struct {
		m            Map
		expert, node int
		want         bool
	}{
		{right, 0, 1, true}, {right, 0, 2, false}, {right, 0, 3, true}, {right, 0, 4, false}, {right, 0, 0, false}, {right, 0, 5, false},
		{right, 1, 1, false}, {right, 1, 2, true}, {right, 2, 1, true}, {right, 2, 4, true}, {right, 2, 5, false}, {right, 2, 0, false}, {right, 2, -1, false},
		{right, 3, 1, false}, {right, 3, 0, false}, {right, -1, 1, false}, {right, -3, 1, false}, {right, math.MinInt, 1, false}, {right, math.MaxInt, 1, false},
		{wrong, 0, 1, true}, {wrong, 0, 3, true}, {wrong, 0, 2, false}, {wrong, 1, 0, false}, {wrong, 1, 1, false}, {wrong, 2, 0, false}, {wrong, 2, 1, false},
		{wrong, 3, 0, true}, {wrong, 3, 5, true}, {wrong, 3, -1, true}, {wrong, 3, math.MinInt, true}, {wrong, 3, math.MaxInt, true}, {wrong, 3, 1, false},
		{wrong, 4, 2, true}, {wrong, 8, 4, true}, {wrong, 9, 3, true}, {wrong, 9, 4, false}, {wrong, 10, 3, false}, {wrong, -1, 3, false},
		{Map{}, 0, 0, false}, {Map{}, 0, 1, false}, {Map{}, -1, 1, false}, {Map{top + 1, [][]int{{1}}}, 0, 1, true},
	} {
		if got := Holds(c.m, c.expert, c.node); got != c.want {
			t.Errorf("Holds(%s, %d, %d): %v", shown(c.m), c.expert, c.node, got)
		}
	}
}

// P17.1: Pick, written out.
func TestPickWrittenOut(t *testing.T) {
	m := Map{4, [][]int{{1, 3}, {2}, {1, 2, 4}, {1, 2, 3, 4}}}
	for _, c := range []struct{ expert, key, want int }{
		{0, 0, 1}, {0, 1, 3}, {0, 2, 1}, {0, 3, 3}, {0, math.MaxInt - 1, 1}, {0, math.MaxInt, 3}, {0, top, 3}, {0, top + 1, 1},
		{1, 0, 2}, {1, 1, 2}, {1, 9, 2}, {1, math.MaxInt, 2}, {2, 0, 1}, {2, 1, 2}, {2, 2, 4}, {2, 3, 1}, {2, 4, 2}, {2, 5, 4}, {2, 6, 1}, {2, 300, 1}, {2, 301, 2},
		{2, math.MaxInt, 2}, {3, 0, 1}, {3, 1, 2}, {3, 2, 3}, {3, 3, 4}, {3, 4, 1}, {3, 7, 4}, {3, 8, 1}, {3, math.MaxInt, 4}, {3, 1 << 62, 1},
	} {
		if n, ok := Pick(m, c.expert, c.key); n != c.want || !ok {
			t.Errorf("Pick(%s, %d, %d): %d, %v", shown(m), c.expert, c.key, n, ok)
		}
	}
	for _, c := range []struct{ expert, key int }{
		{-1, 0}, {4, 0}, {5, 0}, {8, 0}, {math.MinInt, 0}, {math.MaxInt, 0}, {1 << 32, 0}, {0, -1}, {0, -2}, {0, math.MinInt}, {1, -1}, {3, -4}, {2, -3}, {4, -1}, {-1, -1},
	} {
		if n, ok := Pick(m, c.expert, c.key); n != 0 || ok {
			t.Errorf("Pick(%s, %d, %d): %d, %v", shown(m), c.expert, c.key, n, ok)
		}
	}
	for _, m := range wrongOnes() {
		for expert := range min(len(m.Holders), 12) {
			if n, ok := Pick(m, expert, 0); n != 0 || ok {
				t.Errorf("Pick(%s, %d, 0): %d, %v", shown(m), expert, n, ok)
			}
		}
	}
}

// P17.1: keys that go up by one pick each Holder in turn.
func TestPickInTurn(t *testing.T) {
	for _, nodes := range rightLists() {
		m := Map{1, [][]int{{3}, nodes, {1, 2}}}
		for _, first := range []int{0, 12 * 1000, 12 * (top / 12)} {
			for key := range 24 {
				if n, ok := Pick(m, 1, first+key); !ok || n != nodes[key%len(nodes)] {
					t.Errorf("Pick(%s, 1, %d): %d, %v", shown(m), first+key, n, ok)
				}
			}
		}
	}
}

// askedExperts are the numbers of all experts, one more on either side, and
// extremes.
func askedExperts(m Map) []int {
	all := []int{-1, math.MinInt, -1 << 32, 1 << 32, math.MaxInt}
	for i := range min(len(m.Holders), 11) + 2 {
		all = append(all, i)
	}
	return append(all, len(m.Holders)-1, len(m.Holders), len(m.Holders)+1)
}

// askedNodes are those from -1 to 6, and extremes.
func askedNodes() []int {
	return []int{-1, 0, 1, 2, 3, 4, 5, 6, math.MinInt, -1<<32 + 1, 257, top, 1<<32 + 1, 1<<32 + 4, math.MaxInt}
}

// P17.1: each map, expert, node and key, against the chapter's words.
func TestAsks(t *testing.T) {
	keys := append(extremes(), 11, 12, 13)
	for k, m := range allOnes() {
		for i, expert := range askedExperts(m) {
			for j, node := range askedNodes() {
				checkAsks(t, m, expert, node, keys[(i+7*j+k)%len(keys)])
			}
		}
	}
	for _, m := range rightOnes() {
		for _, expert := range []int{-1, 0, len(m.Holders) - 1, len(m.Holders)} {
			for _, key := range keys {
				checkAsks(t, m, expert, 2, key)
			}
		}
	}
}

// P17.2: each map, expert and node, against the chapter's words.
func TestTurns(t *testing.T) {
	for _, m := range allOnes() {
		for _, expert := range askedExperts(m) {
			for _, node := range askedNodes() {
				checkTurn(t, m, expert, node, true)
				checkTurn(t, m, expert, node, false)
			}
		}
	}
}

// P17.2: Add, written out: at its rising place, ahead of all, between, behind
// all, and the others as they were.
func TestAddWrittenOut(t *testing.T) {
	for _, c := range []struct {
		nodes []int
		node  int
		want  []int
	}{
		{[]int{2}, 1, []int{1, 2}}, {[]int{4}, 1, []int{1, 4}}, {[]int{1}, 4, []int{1, 4}}, {[]int{1}, 2, []int{1, 2}}, {[]int{3}, 4, []int{3, 4}},
		{[]int{1, 4}, 2, []int{1, 2, 4}}, {[]int{1, 4}, 3, []int{1, 3, 4}}, {[]int{1, 3}, 2, []int{1, 2, 3}}, {[]int{3, 4}, 1, []int{1, 3, 4}}, {[]int{1, 2}, 4, []int{1, 2, 4}},
		{[]int{2, 3, 4}, 1, []int{1, 2, 3, 4}}, {[]int{1, 3, 4}, 2, []int{1, 2, 3, 4}}, {[]int{1, 2, 4}, 3, []int{1, 2, 3, 4}}, {[]int{1, 2, 3}, 4, []int{1, 2, 3, 4}},
	} {
		for _, at := range []int{0, 1, 7} {
			holders, want := experts(8), experts(8)
			holders[at], want[at] = c.nodes, c.want
			if got, e := Add(Map{6, holders}, at, c.node); e != api.OK || !same(got, Map{7, want}) {
				t.Errorf("Add(%v, %d) of expert %d: %s, %d", c.nodes, c.node, at, shown(got), e)
			}
		}
	}
}

// P17.2: Retire, written out.
func TestRetireWrittenOut(t *testing.T) {
	for _, c := range []struct {
		nodes []int
		node  int
		want  []int
	}{
		{[]int{1, 2}, 1, []int{2}}, {[]int{1, 2}, 2, []int{1}}, {[]int{1, 4}, 4, []int{1}}, {[]int{3, 4}, 3, []int{4}},
		{[]int{1, 2, 4}, 1, []int{2, 4}}, {[]int{1, 2, 4}, 2, []int{1, 4}}, {[]int{1, 2, 4}, 4, []int{1, 2}},
		{[]int{1, 2, 3, 4}, 1, []int{2, 3, 4}}, {[]int{1, 2, 3, 4}, 2, []int{1, 3, 4}}, {[]int{1, 2, 3, 4}, 3, []int{1, 2, 4}}, {[]int{1, 2, 3, 4}, 4, []int{1, 2, 3}},
	} {
		for _, at := range []int{0, 1, 7} {
			holders, want := experts(8), experts(8)
			holders[at], want[at] = c.nodes, c.want
			if got, e := Retire(Map{6, holders}, at, c.node); e != api.OK || !same(got, Map{7, want}) {
				t.Errorf("Retire(%v, %d) of expert %d: %s, %d", c.nodes, c.node, at, shown(got), e)
			}
		}
	}
}

// P17.2, R2: each error, and where several are true the one that is named
// first; with it m, also where that is not right.
func TestErrors(t *testing.T) {
	for i, c := range []struct {
		m            Map
		expert, node int
		add, retire  api.Errno
	}{
		{Map{4, [][]int{{1, 3}, {2}}}, 0, 1, 5, 0}, {Map{4, [][]int{{1, 3}, {2}}}, 0, 2, 0, 4}, {Map{4, [][]int{{1, 3}, {2}}}, 1, 2, 5, 7},
		{Map{4, [][]int{{1, 3}, {2}}}, 1, 1, 0, 4}, {Map{4, [][]int{{1, 3}, {2}}}, 1, 4, 0, 4}, {Map{4, [][]int{{1, 2, 3, 4}}}, 0, 4, 5, 0},
		// No such expert, no such node.
		{Map{4, [][]int{{1, 3}, {2}}}, 2, 1, 1, 1}, {Map{4, [][]int{{1, 3}, {2}}}, -1, 1, 1, 1}, {Map{4, [][]int{{1, 3}, {2}}}, math.MinInt, 2, 1, 1},
		{Map{4, [][]int{{1, 3}, {2}}}, math.MaxInt, 2, 1, 1}, {Map{4, [][]int{{1, 3}, {2}}}, 0, 0, 1, 1}, {Map{4, [][]int{{1, 3}, {2}}}, 0, 5, 1, 1},
		{Map{4, [][]int{{1, 3}, {2}}}, 1, -1, 1, 1}, {Map{4, [][]int{{1, 3}, {2}}}, 1, 5, 1, 1}, {Map{4, [][]int{{1, 3}, {2}}}, 0, math.MaxInt, 1, 1}, {Map{4, [][]int{{1, 3}, {2}}}, 0, math.MinInt, 1, 1},
		{Map{4, nil}, 0, 1, 1, 1}, {Map{}, 0, 0, 1, 1}, {Map{}, 0, 1, 1, 1},
		// No epoch is left: ahead of ErrThere, of ErrNone and of ErrLast.
		{Map{top, [][]int{{1, 3}, {2}}}, 0, 1, 1, 1}, {Map{top, [][]int{{1, 3}, {2}}}, 0, 2, 1, 1}, {Map{top, [][]int{{1, 3}, {2}}}, 1, 2, 1, 1}, {Map{top, [][]int{{1, 3}, {2}}}, 1, 3, 1, 1},
		{Map{top - 1, [][]int{{1, 3}, {2}}}, 0, 1, 5, 0}, {Map{top - 1, [][]int{{1, 3}, {2}}}, 0, 2, 0, 4}, {Map{top - 1, [][]int{{1, 3}, {2}}}, 1, 2, 5, 7},
		// Maps that are not right, likewise.
		{Map{-1, [][]int{{1, 3}, {2}}}, 0, 1, 1, 1}, {Map{-1, [][]int{{1, 3}, {2}}}, 1, 2, 1, 1}, {Map{-1, [][]int{{1, 3}, {2}}}, 0, 2, 1, 1}, {Map{top + 1, [][]int{{1, 3}}}, 0, 1, 1, 1},
		{Map{math.MaxInt, [][]int{{1, 3}}}, 0, 1, 1, 1}, {Map{math.MinInt, [][]int{{1, 3}}}, 0, 2, 1, 1}, {Map{4, experts(9)}, 0, 1, 1, 1}, {Map{4, experts(9)}, 8, 2, 1, 1},
		{Map{4, [][]int{{1, 3}, nil}}, 0, 1, 1, 1}, {Map{4, [][]int{{1, 3}, {}}}, 1, 1, 1, 1}, {Map{4, [][]int{{}, {1, 3}}}, 1, 2, 1, 1}, {Map{4, [][]int{{5}}}, 0, 5, 1, 1},
		{Map{4, [][]int{{0}}}, 0, 0, 1, 1}, {Map{4, [][]int{{3, 1}}}, 0, 1, 1, 1}, {Map{4, [][]int{{3, 1}}}, 0, 2, 1, 1}, {Map{4, [][]int{{1, 1}}}, 0, 1, 1, 1}, {Map{4, [][]int{{1}, {2, 2}}}, 0, 1, 1, 1},
	} {
		was := apart(c.m)
		if got, e := Add(c.m, c.expert, c.node); e != c.add || e != 0 && !same(got, was) {
			t.Errorf("%d: Add(%s, %d, %d): %s, %d", i, shown(was), c.expert, c.node, shown(got), e)
		}
		if got, e := Retire(c.m, c.expert, c.node); e != c.retire || e != 0 && !same(got, was) {
			t.Errorf("%d: Retire(%s, %d, %d): %s, %d", i, shown(was), c.expert, c.node, shown(got), e)
		}
	}
}

// P17.2: the last epoch can be come to, and not gone beyond.
func TestLastEpoch(t *testing.T) {
	for _, nodes := range rightLists() {
		for node := 1; node <= 4; node++ {
			for _, hold := range []bool{true, false} {
				got, e := checkTurn(t, Map{top - 1, [][]int{nodes}}, 0, node, hold)
				if e != api.OK {
					continue
				}
				if got.Epoch != 2147483647 || !Right(got) {
					t.Fatalf("turned: %s", shown(got))
				}
				for other := 1; other <= 4; other++ {
					for _, then := range []bool{true, false} {
						if last, e := checkTurn(t, got, 0, other, then); e != api.ErrArg || !same(last, got) {
							t.Fatalf("turned, and then: %s, %d", shown(last), e)
						}
					}
				}
			}
		}
	}
}

// P17.3: one who is added and retired, or retired and added, leaves the Holders
// as they were, two epochs more.
func TestThereAndBack(t *testing.T) {
	for _, m := range rightOnes() {
		if m.Epoch > top-2 {
			continue
		}
		for expert := range m.Holders {
			for node := 1; node <= 4; node++ {
				for _, hold := range []bool{true, false} {
					turned, e := checkTurn(t, m, expert, node, hold)
					if e != api.OK {
						continue
					}
					if Holds(turned, expert, node) != hold || turned.Epoch != m.Epoch+1 {
						t.Fatalf("turn(%s, %d, %d, %v): %s", shown(m), expert, node, hold, shown(turned))
					}
					if back, e := checkTurn(t, turned, expert, node, !hold); e != api.OK || !same(back, Map{m.Epoch + 2, m.Holders}) {
						t.Fatalf("turn(%s, %d, %d, %v), and back: %s, %d", shown(m), expert, node, hold, shown(back), e)
					}
				}
			}
		}
	}
}

// play adds and retires at will, and holds what comes of it against a record of
// who holds what: it stays right, each turn is one epoch, and each expert has a
// holder.
func play(t *testing.T, m Map, many int, draw *mixed) Map {
	t.Helper()
	type holding struct{ expert, node int }
	record := map[holding]int{}
	for expert, nodes := range m.Holders {
		for _, node := range nodes {
			record[holding{expert, node}]++
		}
	}
	for range many {
		h := holding{draw.next(len(m.Holders)+2) - 1, draw.next(6)}
		hold := draw.next(2) == 0
		next, e := checkTurn(t, m, h.expert, h.node, hold)
		if e != api.OK && !same(next, m) || e == api.OK && next.Epoch != m.Epoch+1 {
			t.Fatalf("turn(%s, %v, %v): %s, %d", shown(m), h, hold, shown(next), e)
		}
		if e == api.OK && hold {
			record[h]++
		}
		if e == api.OK && !hold {
			record[h]--
		}
		m = next
		for expert := range m.Holders {
			if n, ok := Pick(m, expert, draw.next(100)); !ok || !Holds(m, expert, n) {
				t.Fatalf("expert %d has no holder: %s", expert, shown(m))
			}
			for node := range 6 {
				if Holds(m, expert, node) != (record[holding{expert, node}] == 1) {
					t.Fatalf("expert %d, node %d: %s", expert, node, shown(m))
				}
			}
		}
	}
	return m
}

// P17.3: whatever is added and retired.
func TestPlays(t *testing.T) {
	draw := mixed(17)
	for _, epoch := range []int{0, 1, 1000, top - 1000} {
		for many := range 9 {
			m := play(t, Map{epoch, experts(many)}, 300, &draw)
			if many > 0 && m.Epoch < epoch+20 {
				t.Errorf("%d experts: hardly turned: %s", many, shown(m))
			}
		}
	}
	if m := play(t, Map{top - 10, experts(4)}, 300, &draw); m.Epoch != top {
		t.Errorf("at the end: %s", shown(m))
	}
}

// P17.3: from one holder to all, in each order, and back to each one, who can't
// be retired.
func TestAllAndOne(t *testing.T) {
	for _, order := range [][]int{{1, 2, 3, 4}, {4, 3, 2, 1}, {2, 4, 1, 3}, {3, 1, 4, 2}, {1, 4, 2, 3}} {
		for expert := range 3 {
			m := Map{5, [][]int{{1}, {2}, {3}}}
			m.Holders[expert] = []int{order[0]}
			for _, node := range order[1:] {
				m, _ = checkTurn(t, m, expert, node, true)
			}
			if m.Epoch != 8 || !slices.Equal(m.Holders[expert], []int{1, 2, 3, 4}) {
				t.Fatalf("%v, all added: %s", order, shown(m))
			}
			for _, node := range order[:3] {
				m, _ = checkTurn(t, m, expert, node, false)
			}
			if m.Epoch != 11 || !slices.Equal(m.Holders[expert], order[3:]) {
				t.Fatalf("%v, but the last retired: %s", order, shown(m))
			}
			if last, e := checkTurn(t, m, expert, order[3], false); e != api.ErrLast || !same(last, m) {
				t.Fatalf("%v, the last retired: %s, %d", order, shown(last), e)
			}
		}
	}
}

// drawn is a map that is right as often as not.
func (m *mixed) drawn() Map {
	epochs := slices.Concat([]int{3, 4, 5, 6, 7, 8, 9, 10, 11, 12, 13, 14, 15}, rightEpochs(), []int{-1, top + 1})
	all := Map{Epoch: epochs[m.next(len(epochs))]}
	spoiled := m.next(2) == 0
	for range m.next(9 + m.next(2)) {
		nodes := rightLists()[m.next(15)]
		if spoiled && m.next(4) == 0 {
			nodes = wrongLists()[m.next(len(wrongLists()))]
		}
		if spoiled && m.next(4) == 0 {
			nodes = []int{m.next(7) - 1, m.next(7) - 1}
		}
		all.Holders = append(all.Holders, nodes)
	}
	return all
}

// P17.1, P17.2: drawn maps, right and not, against the chapter's words.
func TestDrawn(t *testing.T) {
	draw := mixed(1717)
	right := 0
	for range 20000 {
		m := draw.drawn()
		expert, node, key := draw.next(len(m.Holders)+2)-1, draw.next(7)-1, draw.next(40)-3
		checkAsks(t, m, expert, node, key)
		checkTurn(t, m, expert, node, true)
		checkTurn(t, m, expert, node, false)
		if Right(m) {
			right++
		}
	}
	if right < 4000 || right > 16000 {
		t.Errorf("%d of 20000 are right", right)
	}
}

// roomy is m with room behind each list, and behind the list of lists, in which
// something stands; memory is all of it.
func roomy(m Map, room int) (handed Map, memory [][]int) {
	for _, nodes := range m.Holders {
		memory = append(memory, slices.Clip(append(slices.Clone(nodes), slices.Repeat([]int{-900}, room)...)))
	}
	for range room {
		memory = append(memory, []int{-901})
	}
	lists := slices.Clip(slices.Clone(memory))
	for i, nodes := range m.Holders {
		lists[i] = memory[i][:len(nodes)]
	}
	return Map{m.Epoch, lists[:len(m.Holders)]}, memory
}

// seen is all memory that a list of lists can reach.
func seen(lists [][]int) [][]int {
	lists = lists[:cap(lists)]
	all := make([][]int, len(lists))
	for i, l := range lists {
		all[i] = slices.Clone(l[:cap(l)])
	}
	return all
}

// spoil writes into all memory that a list of lists can reach, and spoilNodes
// into one's.
func spoil(lists [][]int) {
	lists = lists[:cap(lists)]
	for i, l := range lists {
		spoilNodes(l)
		lists[i] = []int{-8}
	}
}

func spoilNodes(nodes []int) {
	nodes = nodes[:cap(nodes)]
	for i := range nodes {
		nodes[i] = -7
	}
}

func alike(a, b [][]int) bool { return slices.EqualFunc(a, b, slices.Equal[[]int]) }

// calls are those of which the answer could share memory with m.
func calls(m Map) map[string]func() Map {
	all := map[string]func() Map{}
	for _, expert := range []int{-1, 0, len(m.Holders) / 2, len(m.Holders) - 1, len(m.Holders)} {
		for node := range 6 {
			for _, hold := range []bool{true, false} {
				all[fmt.Sprint("turn ", expert, node, hold)] = func() Map { got, _ := turn(m, expert, node, hold); return got }
			}
		}
	}
	return all
}

// some are maps of each kind, few of them.
func some() []Map {
	draw := mixed(71)
	all := []Map{{}, {4, [][]int{{2}}}, {4, [][]int{{1, 3}, {2}}}, {4, experts(8)}, {top, experts(3)}, {-1, experts(8)}, {4, experts(9)}, {4, [][]int{nil, {}, {1}}}, {4, [][]int{{3, 1}, {1, 1, 2}}}}
	for range 60 {
		all = append(all, draw.drawn())
	}
	return all
}

// R1: what is handed in stays as it is, up to the end of its memory, and an
// answer shares none of it: neither is changed by what is written into the
// other. R4: the room behind the lists counts not.
func TestMapsStay(t *testing.T) {
	for _, m := range some() {
		tight := calls(apart(m))
		for _, room := range []int{0, 1, 4} {
			for what := range calls(m) {
				handed, memory := roomy(m, room)
				was, wasHanded := seen(memory), seen(handed.Holders)
				got := calls(handed)[what]()
				if !alike(seen(memory), was) || !alike(seen(handed.Holders), wasHanded) || !same(handed, m) {
					t.Fatalf("%s, %s, room for %d: the memory is changed", what, shown(m), room)
				}
				if want := tight[what](); !same(got, want) {
					t.Fatalf("%s, %s, room for %d: %s, without it %s", what, shown(m), room, shown(got), shown(want))
				}
				kept := apart(got)
				spoil(handed.Holders)
				if !same(got, kept) {
					t.Fatalf("%s, %s, room for %d: the answer changes with m", what, shown(m), room)
				}
				handed, memory = roomy(m, room)
				spoil(calls(handed)[what]().Holders)
				if !alike(seen(memory), was) || !alike(seen(handed.Holders), wasHanded) {
					t.Fatalf("%s, %s, room for %d: m changes with the answer", what, shown(m), room)
				}
			}
		}
	}
}

// R1: Right, Holds and Pick leave a map as it is, with room behind its lists.
func TestAskedMapsStay(t *testing.T) {
	for _, m := range some() {
		handed, memory := roomy(m, 3)
		was := seen(memory)
		for _, expert := range askedExperts(m) {
			for _, node := range askedNodes() {
				checkAsks(t, handed, expert, node, node)
				if Holds(handed, expert, -900) != Holds(m, expert, -900) {
					t.Fatalf("Holds(%s, %d, -900): the room counts", shown(m), expert)
				}
			}
		}
		if !alike(seen(memory), was) {
			t.Fatalf("%s: the memory is changed", shown(m))
		}
	}
}

// R1: an answer is left as it was by what a second call does, with the same map
// or with the answer.
func TestAnswersStay(t *testing.T) {
	for _, m := range some() {
		for what, call := range calls(m) {
			first := call()
			kept := apart(first)
			for _, again := range []map[string]func() Map{calls(m), calls(first)} {
				for then, other := range again {
					spoil(other().Holders)
					if !same(first, kept) {
						t.Fatalf("%s, then %s, of %s: %s, not %s", what, then, shown(m), shown(first), shown(kept))
					}
				}
			}
		}
	}
}

// R1: experts whose Holders are one and the same list are turned one by one,
// and no two lists of an answer share memory.
func TestOneListForAll(t *testing.T) {
	for _, room := range []int{0, 3} {
		shared := append(make([]int, 0, 2+room), 1, 3)
		m := Map{4, slices.Repeat([][]int{shared}, 8)}
		for what, call := range calls(m) {
			got := call()
			kept := apart(got)
			for i := range got.Holders {
				spoilNodes(got.Holders[i])
				for k := i + 1; k < len(got.Holders); k++ {
					if !slices.Equal(got.Holders[k], kept.Holders[k]) {
						t.Fatalf("%s: the lists %d and %d share memory", what, i, k)
					}
				}
			}
		}
		for expert := range 8 {
			checkTurn(t, m, expert, 2, true)
			checkTurn(t, m, expert, 1, false)
		}
	}
}

// P1: great maps, that are not right, have an answer as well.
func TestGreatMaps(t *testing.T) {
	for _, m := range []Map{{0, make([][]int, 100000)}, {0, slices.Repeat([][]int{{1}}, 100000)}, {0, [][]int{slices.Repeat([]int{1}, 1000000)}}} {
		for _, expert := range []int{-1, 0, 7, 8, 99999, 100000} {
			checkAsks(t, m, expert, 1, 99999)
			checkTurn(t, m, expert, 2, true)
			checkTurn(t, m, expert, 1, false)
		}
	}
}

// FuzzPlace reads Holders from bytes: each is a number with a sign, and -128
// parts an expert's from the next one's.
func FuzzPlace(f *testing.F) {
	f.Add(4, []byte{1, 3, 128, 2}, 0, 2, 3, uint64(1))
	f.Add(0, []byte{1, 2, 3, 4, 128, 4, 128, 1}, 2, 1, math.MaxInt, uint64(2))
	f.Add(top, []byte{1}, 0, 1, 0, uint64(3))
	f.Add(-1, []byte{128, 5, 0, 255}, 1, 5, -1, uint64(4))
	f.Fuzz(func(t *testing.T, epoch int, data []byte, expert, node, key int, seed uint64) {
		if len(data) > 1000 {
			t.Skip()
		}
		m := Map{Epoch: epoch}
		for _, part := range bytes.Split(data, []byte{128}) {
			var nodes []int
			for _, b := range part {
				nodes = append(nodes, int(int8(b)))
			}
			m.Holders = append(m.Holders, nodes)
		}
		checkAsks(t, m, expert, node, key)
		checkTurn(t, m, expert, node, true)
		checkTurn(t, m, expert, node, false)
		if draw := mixed(seed); Right(m) {
			play(t, m, 30, &draw)
		}
	})
}
