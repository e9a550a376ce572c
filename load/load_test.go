package load

import (
	"bytes"
	"cmp"
	"fmt"
	"math"
	"math/big"
	"slices"
	"testing"

	"switchboard/api"
	"switchboard/place"
)

const top = 1<<31 - 1

// mixed gives numbers that are always the same ones for a seed.
type mixed uint64

func (m *mixed) next(below int) int {
	*m = *m*6364136223846793005 + 1442695040888963407
	return int(uint64(*m)>>33) % below
}

// extremes are numbers around which something could turn.
func extremes() []int {
	return []int{
		math.MinInt, math.MinInt + 1, -1 << 32, -1<<32 + 1, math.MinInt32 - 1, math.MinInt32, -top, -9, -8, -7, -2, -1,
		0, 1, 2, 3, 4, 5, 6, 7, 8, 9, 10, 255, 256, 257, 65536, top - 2, top - 1, top, top + 1, top + 2,
		2 * top, 3 * top, 3*top + 1, 4 * top, 1 << 32, 1<<32 + 1, 1<<32 + 7, 1 << 62, math.MaxInt - 1, math.MaxInt,
	}
}

// wrongExperts are numbers that no expert has.
func wrongExperts() []int {
	return slices.DeleteFunc(extremes(), func(n int) bool { return n >= 0 && n <= 7 })
}

// rightBounds are some that Hot and Cold take, wrongBounds some that they don't.
func rightBounds() []int { return []int{1, 2, 3, 4, 5, 7, 100, 65536, top - 1, top} }

func wrongBounds() []int {
	return slices.DeleteFunc(extremes(), func(n int) bool { return n >= 1 && n <= 2147483647 })
}

// rightLists are all that an expert's Holders can be, written out.
func rightLists() [][]int {
	return [][]int{
		{1}, {2}, {3}, {4}, {1, 2}, {1, 3}, {1, 4}, {2, 3}, {2, 4}, {3, 4},
		{1, 2, 3}, {1, 2, 4}, {1, 3, 4}, {2, 3, 4}, {1, 2, 3, 4},
	}
}

// wrongLists are Holders that are wrong, each in one way.
func wrongLists() [][]int {
	all := [][]int{
		nil, {}, make([]int, 0, 4), {0, 1}, {-1, 1}, {1, 5}, {4, 5}, {0, 1, 2, 3}, {2, 3, 4, 5}, {1, 2, 3, 4, 5}, {0, 1, 2, 3, 4},
		{1, 1}, {2, 2}, {4, 4}, {1, 2, 2}, {1, 1, 2}, {1, 2, 2, 3}, {1, 2, 1}, {1, 1, 1, 1}, {1, 2, 3, 4, 4},
		{2, 1}, {4, 1}, {3, 2, 1}, {1, 3, 2}, {2, 1, 3}, {4, 3, 2, 1}, {1, 2, 4, 3}, {2, 1, 3, 4},
		{math.MinInt, 1}, {1, math.MaxInt}, {math.MaxInt, 1}, {1, 1<<32 + 2}, slices.Repeat([]int{1, 2, 3, 4}, 100),
	}
	for _, n := range extremes() {
		if n < 1 || n > 4 {
			all = append(all, []int{n})
		}
	}
	return all
}

// rightEpochs and wrongEpochs are those at the edges, and beyond them.
func rightEpochs() []int { return []int{0, 1, 7, 65536, top - 2, top - 1, top} }

func wrongEpochs() []int {
	return slices.DeleteFunc(extremes(), func(n int) bool { return n >= 0 && n <= 2147483647 })
}

// experts are so many lists, of all that are right one after the other.
func experts(many int) [][]int {
	all := make([][]int, many)
	for i := range all {
		all[i] = rightLists()[(4*i+many)%15]
	}
	return all
}

// rightOnes are maps that are right: of none, one, and up to 8 experts, each of
// them once with each list.
func rightOnes() []place.Map {
	var all []place.Map
	for _, epoch := range rightEpochs() {
		all = append(all, place.Map{Epoch: epoch}, place.Map{Epoch: epoch, Holders: [][]int{}})
		for many := 1; many <= 8; many++ {
			all = append(all, place.Map{Epoch: epoch, Holders: experts(many)})
		}
	}
	for _, nodes := range rightLists() {
		for _, holders := range [][][]int{{nodes}, {{2}, nodes, {1, 3}}, slices.Repeat([][]int{nodes}, 8)} {
			all = append(all, place.Map{Epoch: 4, Holders: holders})
		}
	}
	return all
}

// wrongOnes are maps that are wrong, each in one way: by their Epoch, by how
// many experts there are, by the Holders of one expert at each place.
func wrongOnes() []place.Map {
	var all []place.Map
	for _, epoch := range wrongEpochs() {
		for _, many := range []int{0, 1, 2, 8} {
			all = append(all, place.Map{Epoch: epoch, Holders: experts(many)})
		}
	}
	for _, many := range []int{9, 10, 16, 17, 256, 257} {
		all = append(all, place.Map{Holders: experts(many)}, place.Map{Epoch: top, Holders: experts(many)})
	}
	for _, nodes := range wrongLists() {
		for _, many := range []int{1, 2, 3, 8} {
			for at := range many {
				holders := experts(many)
				holders[at] = nodes
				all = append(all, place.Map{Epoch: 3, Holders: holders})
			}
		}
	}
	return all
}

func allOnes() []place.Map { return append(rightOnes(), wrongOnes()...) }

// shown keeps what a test says of a map, and of counts, short.
func shown(p place.Map) string {
	return fmt.Sprintf("{%d %.150s (%d)}", p.Epoch, fmt.Sprint(p.Holders), len(p.Holders))
}

func counts(l []int) string { return fmt.Sprintf("%.150s (%d)", fmt.Sprint(l), len(l)) }

func sameMap(p, q place.Map) bool {
	return p.Epoch == q.Epoch && slices.EqualFunc(p.Holders, q.Holders, slices.Equal[[]int])
}

// apart is a map like p, in memory of its own.
func apart(p place.Map) place.Map {
	other := place.Map{Epoch: p.Epoch}
	for _, nodes := range p.Holders {
		other.Holders = append(other.Holders, append([]int(nil), nodes...))
	}
	return other
}

// told is what Hot, or Cold, tells.
type told struct {
	expert, node int
	ok           bool
}

func hot(l []int, p place.Map, high int) told {
	expert, node, ok := Hot(l, p, high)
	return told{expert, node, ok}
}

func cold(l []int, p place.Map, low int) told {
	expert, node, ok := Cold(l, p, low)
	return told{expert, node, ok}
}

// wantCount, wantNote, wantWeight, wantHot and wantCold are the chapter's words:
// all that are of the kind are gathered, and then sorted so that those that are
// alike stay in their order.
func wantCount(l []int, expert int) int {
	for i, n := range l {
		if i == expert {
			return n
		}
	}
	return 0
}

func wantNote(l []int, expert int) []int {
	if expert < 0 || expert > 7 || wantCount(l, expert) >= 2147483647 {
		return l
	}
	var all []int
	for i := 0; i < len(l) || i <= expert; i++ {
		all = append(all, wantCount(l, i))
		if i == expert {
			all[i]++
		}
	}
	return all
}

func wantRight(p place.Map) bool {
	for _, nodes := range p.Holders {
		if !slices.ContainsFunc(rightLists(), func(l []int) bool { return slices.Equal(l, nodes) }) {
			return false
		}
	}
	return p.Epoch >= 0 && p.Epoch <= 2147483647 && len(p.Holders) <= 8
}

func wantWeight(p place.Map, node int) int {
	held := map[int]int{}
	for expert, nodes := range p.Holders {
		if slices.Contains(nodes, node) && slices.Contains([]int{1, 2, 3, 4}, node) {
			held[expert]++
		}
	}
	return len(held)
}

func wantBound(p place.Map, bound int) bool {
	return wantRight(p) && bound >= 1 && bound <= 2147483647
}

// times compares a count with a bound that is taken so many times, without an
// end to numbers.
func times(l []int, expert, bound, many int) int {
	product := new(big.Int).Mul(big.NewInt(int64(bound)), big.NewInt(int64(many)))
	return big.NewInt(int64(wantCount(l, expert))).Cmp(product)
}

func wantHot(l []int, p place.Map, high int) told {
	if !wantBound(p, high) {
		return told{}
	}
	var these []told
	for expert, nodes := range p.Holders {
		for node := 1; node <= 4; node++ {
			if !slices.Contains(nodes, node) && times(l, expert, high, len(nodes)) > 0 {
				these = append(these, told{expert, node, true})
			}
		}
	}
	slices.SortStableFunc(these, func(a, b told) int {
		return cmp.Or(cmp.Compare(wantCount(l, b.expert), wantCount(l, a.expert)), cmp.Compare(a.expert, b.expert),
			cmp.Compare(wantWeight(p, a.node), wantWeight(p, b.node)))
	})
	return append(these, told{})[0]
}

func wantCold(l []int, p place.Map, low int) told {
	if !wantBound(p, low) {
		return told{}
	}
	var these []told
	for expert, nodes := range p.Holders {
		if len(nodes) > 1 && times(l, expert, low, len(nodes)-1) < 0 {
			these = append(these, told{expert, slices.Max(nodes), true})
		}
	}
	slices.SortStableFunc(these, func(a, b told) int { return cmp.Compare(wantCount(l, a.expert), wantCount(l, b.expert)) })
	return append(these, told{})[0]
}

// checkCounts holds Note and Count against the chapter, two times, and what was
// handed in against what it was.
func checkCounts(t *testing.T, l []int, expert int) []int {
	t.Helper()
	was := slices.Clone(l)
	want := wantNote(was, expert)
	var got []int
	for range 2 {
		if n := Count(l, expert); n != wantCount(was, expert) {
			t.Fatalf("Count(%s, %d): %d, not %d", counts(was), expert, n, wantCount(was, expert))
		}
		if got = Note(l, expert); !slices.Equal(got, want) {
			t.Fatalf("Note(%s, %d): %s, not %s", counts(was), expert, counts(got), counts(want))
		}
		if !slices.Equal(l, was) {
			t.Fatalf("Note(%s, %d): the counts are now %s", counts(was), expert, counts(l))
		}
	}
	return got
}

// checkWeight holds Weight against the chapter, two times, and the map against
// what it was.
func checkWeight(t *testing.T, p place.Map, node int) {
	t.Helper()
	was := apart(p)
	for range 2 {
		if got := Weight(p, node); got != wantWeight(was, node) {
			t.Fatalf("Weight(%s, %d): %d, not %d", shown(was), node, got, wantWeight(was, node))
		}
		if !sameMap(p, was) {
			t.Fatalf("Weight(%s, %d): the map is now %s", shown(was), node, shown(p))
		}
	}
}

// checkLoad holds Hot and Cold against the chapter, two times, what was handed in
// against what it was, and what they tell against layer 17 (P21.4).
func checkLoad(t *testing.T, l []int, p place.Map, bound int) (told, told) {
	t.Helper()
	was, counted := apart(p), slices.Clone(l)
	wantedHot, wantedCold := wantHot(counted, was, bound), wantCold(counted, was, bound)
	for range 2 {
		if got := hot(l, p, bound); got != wantedHot {
			t.Fatalf("Hot(%s, %s, %d): %v, not %v", counts(counted), shown(was), bound, got, wantedHot)
		}
		if got := cold(l, p, bound); got != wantedCold {
			t.Fatalf("Cold(%s, %s, %d): %v, not %v", counts(counted), shown(was), bound, got, wantedCold)
		}
		if !sameMap(p, was) || !slices.Equal(l, counted) {
			t.Fatalf("%s, %s, %d: now %s, %s", counts(counted), shown(was), bound, counts(l), shown(p))
		}
	}
	checkTurned(t, p, wantedHot, true)
	checkTurned(t, p, wantedCold, false)
	return wantedHot, wantedCold
}

// checkTurned wants what was told to be done by layer 17: an epoch later the node
// holds the expert, or does not any more. At the last epoch it can't be.
func checkTurned(t *testing.T, p place.Map, what told, hold bool) {
	t.Helper()
	if !what.ok {
		return
	}
	turn := place.Retire
	if hold {
		turn = place.Add
	}
	next, e := turn(p, what.expert, what.node)
	if p.Epoch == top {
		if e != api.ErrArg {
			t.Fatalf("turn(%s, %v, %v): %d", shown(p), what, hold, e)
		}
		return
	}
	if e != api.OK || place.Holds(next, what.expert, what.node) != hold || next.Epoch != p.Epoch+1 || !place.Right(next) {
		t.Fatalf("turn(%s, %v, %v): %s, %d", shown(p), what, hold, shown(next), e)
	}
}

// P21.2: the chapter's example.
func TestExample(t *testing.T) {
	p := place.Map{Holders: [][]int{{1}, {1}}}
	if got := hot([]int{9, 1}, p, 4); got != (told{0, 2, true}) {
		t.Errorf("Hot: %v", got)
	}
	if got := cold([]int{9, 1}, p, 4); got != (told{}) {
		t.Errorf("Cold: %v", got)
	}
	checkLoad(t, []int{9, 1}, p, 4)
}

// P21.1: Note, written out.
func TestNoteWrittenOut(t *testing.T) {
	for _, c := range []struct {
		l      []int
		expert int
		want   []int
	}{
		{nil, 0, []int{1}}, {nil, 1, []int{0, 1}}, {nil, 3, []int{0, 0, 0, 1}}, {nil, 7, []int{0, 0, 0, 0, 0, 0, 0, 1}}, {[]int{}, 2, []int{0, 0, 1}},
		{[]int{0}, 0, []int{1}}, {[]int{5}, 0, []int{6}}, {[]int{5}, 1, []int{5, 1}}, {[]int{5}, 2, []int{5, 0, 1}}, {[]int{5, 6, 7}, 0, []int{6, 6, 7}},
		{[]int{5, 6, 7}, 1, []int{5, 7, 7}}, {[]int{5, 6, 7}, 2, []int{5, 6, 8}}, {[]int{5, 6, 7}, 3, []int{5, 6, 7, 1}}, {[]int{5, 6, 7}, 7, []int{5, 6, 7, 0, 0, 0, 0, 1}},
		// More counts than there may be experts.
		{[]int{1, 2, 3, 4, 5, 6, 7, 8, 9, 10}, 7, []int{1, 2, 3, 4, 5, 6, 7, 9, 9, 10}}, {[]int{1, 2, 3, 4, 5, 6, 7, 8, 9}, 0, []int{2, 2, 3, 4, 5, 6, 7, 8, 9}},
		{[]int{1, 2, 3, 4, 5, 6, 7, 8, 9, 10}, 8, []int{1, 2, 3, 4, 5, 6, 7, 8, 9, 10}}, {[]int{1, 2, 3, 4, 5, 6, 7, 8, 9, 10}, 9, []int{1, 2, 3, 4, 5, 6, 7, 8, 9, 10}},
		// No such expert: not even a nought is laid behind.
		{nil, 8, nil}, {nil, -1, nil}, {[]int{5}, 8, []int{5}}, {[]int{5}, 9, []int{5}}, {[]int{5}, -1, []int{5}}, {[]int{5, 6, 7}, math.MinInt, []int{5, 6, 7}}, {[]int{5, 6, 7}, math.MaxInt, []int{5, 6, 7}},
		// The greatest count, and what is beyond it, stays.
		{[]int{2147483645}, 0, []int{2147483646}}, {[]int{2147483646}, 0, []int{2147483647}}, {[]int{2147483647}, 0, []int{2147483647}}, {[]int{2147483648}, 0, []int{2147483648}},
		{[]int{1 << 32, 3}, 0, []int{1 << 32, 3}}, {[]int{math.MaxInt, 3}, 0, []int{math.MaxInt, 3}}, {[]int{math.MaxInt - 1}, 0, []int{math.MaxInt - 1}},
		{[]int{2147483647, 3}, 1, []int{2147483647, 4}}, {[]int{3, math.MaxInt}, 0, []int{4, math.MaxInt}}, {[]int{math.MaxInt}, 2, []int{math.MaxInt, 0, 1}},
		{[]int{0, 1, 2, 3, 4, 5, 6, 2147483646}, 7, []int{0, 1, 2, 3, 4, 5, 6, 2147483647}}, {[]int{0, 1, 2, 3, 4, 5, 6, 2147483647}, 7, []int{0, 1, 2, 3, 4, 5, 6, 2147483647}},
		// A count below 0 goes up as well.
		{[]int{-1}, 0, []int{0}}, {[]int{-5, -6}, 1, []int{-5, -5}}, {[]int{math.MinInt}, 0, []int{math.MinInt + 1}}, {[]int{-5}, 1, []int{-5, 1}}, {[]int{-2147483648}, 0, []int{-2147483647}},
	} {
		if got := checkCounts(t, c.l, c.expert); !slices.Equal(got, c.want) {
			t.Errorf("Note(%s, %d): %s, not %s", counts(c.l), c.expert, counts(got), counts(c.want))
		}
	}
}

// P21.1: Count, written out.
func TestCountWrittenOut(t *testing.T) {
	l := []int{4, 0, -3, math.MaxInt, math.MinInt, 2147483647, 2147483648, 1, 77, 78}
	for expert, want := range l {
		if got := Count(l, expert); got != want {
			t.Errorf("Count(%d, %d): %d", l, expert, got)
		}
	}
	for _, expert := range []int{-1, -2, -10, 10, 11, 20, math.MinInt, math.MaxInt, -1 << 32, 1 << 32, 1<<32 + 1} {
		if got := Count(l, expert); got != 0 {
			t.Errorf("Count(%d, %d): %d", l, expert, got)
		}
	}
	for expert := -2; expert < 10; expert++ {
		if a, b := Count(nil, expert), Count([]int{}, expert); a != 0 || b != 0 {
			t.Errorf("Count of no counts, of %d: %d, %d", expert, a, b)
		}
		if got := Count([]int{6, 6, 6}[:1], expert); expert != 0 && got != 0 {
			t.Errorf("Count of one, of %d: %d", expert, got)
		}
	}
}

// P21.1: lists of up to 12 counts, each extreme at each place, and each expert,
// wrong ones among them.
func TestCounts(t *testing.T) {
	for many := range 13 {
		for at := range max(many, 1) {
			for _, n := range extremes() {
				l := make([]int, many)
				for i := range l {
					l[i] = 10 + i
				}
				if many > 0 {
					l[at] = n
				}
				for expert := -2; expert < 14; expert++ {
					checkCounts(t, l, expert)
				}
				checkCounts(t, l, n)
			}
		}
		l := slices.Repeat([]int{3}, many)
		for _, expert := range wrongExperts() {
			if got := checkCounts(t, l, expert); !slices.Equal(got, l) {
				t.Errorf("Note(%d, %d): %d", l, expert, got)
			}
		}
	}
	if api.MaxExperts != 8 || api.MaxNodes != 4 || api.Top != top {
		t.Errorf("the limits: %d, %d, %d", api.MaxExperts, api.MaxNodes, api.Top)
	}
}

// P21.1: whatever was noted, in whichever order, is counted.
func TestNoted(t *testing.T) {
	draw := mixed(21)
	for _, span := range []int{1, 2, 8, 12} {
		var l []int
		record := map[int]int{}
		for range 400 {
			expert := draw.next(span+2) - 1
			l = checkCounts(t, l, expert)
			if expert >= 0 && expert <= 7 {
				record[expert]++
			}
			for i := -1; i < 14; i++ {
				if Count(l, i) != record[i] {
					t.Fatalf("%d: %d of %d, not %d", l, Count(l, i), i, record[i])
				}
			}
		}
		if len(l) > 8 || len(l) < min(span, 8) {
			t.Errorf("of %d: %d", span, l)
		}
	}
}

// P21.1: Weight, written out: also a map that is not right tells, and a node that
// stands twice in a list holds that expert once.
func TestWeightWrittenOut(t *testing.T) {
	for _, c := range []struct {
		p    place.Map
		want [4]int
	}{
		{place.Map{}, [4]int{}}, {place.Map{Epoch: 9, Holders: [][]int{}}, [4]int{}},
		{place.Map{Holders: [][]int{{1}}}, [4]int{1, 0, 0, 0}}, {place.Map{Holders: [][]int{{4}}}, [4]int{0, 0, 0, 1}}, {place.Map{Holders: [][]int{{1, 2, 3, 4}}}, [4]int{1, 1, 1, 1}},
		{place.Map{Holders: [][]int{{1, 2}, {1}, {1, 2, 3, 4}}}, [4]int{3, 2, 1, 1}}, {place.Map{Epoch: top, Holders: [][]int{{2, 3}, {3}, {3, 4}, {2}}}, [4]int{0, 2, 3, 1}},
		{place.Map{Holders: slices.Repeat([][]int{{1, 3, 4}}, 8)}, [4]int{8, 0, 8, 8}},
		// Not right.
		{place.Map{Holders: [][]int{{1, 1}}}, [4]int{1, 0, 0, 0}}, {place.Map{Holders: [][]int{{2, 1, 2, 1, 2}, {2, 2}}}, [4]int{1, 2, 0, 0}}, {place.Map{Holders: [][]int{nil, {}, {3}}}, [4]int{0, 0, 1, 0}},
		{place.Map{Epoch: -1, Holders: [][]int{{1}, {1, 4}}}, [4]int{2, 0, 0, 1}}, {place.Map{Epoch: top + 1, Holders: [][]int{{4, 3}}}, [4]int{0, 0, 1, 1}},
		{place.Map{Holders: [][]int{{0, 1, 5, -1, math.MinInt, math.MaxInt}, {0}, {5}}}, [4]int{1, 0, 0, 0}}, {place.Map{Holders: slices.Repeat([][]int{{2, 4}}, 300)}, [4]int{0, 300, 0, 300}},
	} {
		for i, want := range c.want {
			if got := Weight(c.p, i+1); got != want {
				t.Errorf("Weight(%s, %d): %d, not %d", shown(c.p), i+1, got, want)
			}
		}
		for _, node := range extremes() {
			if got := Weight(c.p, node); got != 0 && (node < 1 || node > 4) {
				t.Errorf("Weight(%s, %d): %d", shown(c.p), node, got)
			}
		}
	}
}

// P21.1: each map, and each node, against the chapter's words.
func TestWeights(t *testing.T) {
	for _, p := range allOnes() {
		for _, node := range extremes() {
			checkWeight(t, p, node)
		}
	}
}

// P21.2: Hot, written out.
func TestHotWrittenOut(t *testing.T) {
	for _, c := range []struct {
		l       []int
		holders [][]int
		high    int
		want    told
	}{
		// Above, and just the bound, with one holder and with several.
		{[]int{5}, [][]int{{1}}, 4, told{0, 2, true}}, {[]int{4}, [][]int{{1}}, 4, told{}}, {[]int{3}, [][]int{{1}}, 4, told{}},
		{[]int{9}, [][]int{{1, 2}}, 4, told{0, 3, true}}, {[]int{8}, [][]int{{1, 2}}, 4, told{}}, {[]int{7}, [][]int{{1, 2}}, 4, told{}}, {[]int{5}, [][]int{{1, 2}}, 4, told{}},
		{[]int{13}, [][]int{{1, 2, 3}}, 4, told{0, 4, true}}, {[]int{12}, [][]int{{1, 2, 3}}, 4, told{}}, {[]int{11}, [][]int{{2, 3, 4}}, 4, told{}}, {[]int{13}, [][]int{{2, 3, 4}}, 4, told{0, 1, true}},
		{[]int{1}, [][]int{{2}}, 1, told{}}, {[]int{2}, [][]int{{2}}, 1, told{0, 1, true}},
		// Held by all, however much it is asked for.
		{[]int{math.MaxInt}, [][]int{{1, 2, 3, 4}}, 1, told{}}, {[]int{17}, [][]int{{1, 2, 3, 4}}, 4, told{}}, {[]int{math.MaxInt, 5}, [][]int{{1, 2, 3, 4}, {4}}, 4, told{1, 1, true}},
		// The greatest count, and not the most beyond its bound.
		{[]int{9, 10}, [][]int{{1}, {1, 2}}, 4, told{1, 3, true}}, {[]int{10, 9}, [][]int{{1, 2}, {1}}, 4, told{0, 3, true}}, {[]int{8, 5}, [][]int{{1, 2}, {1}}, 4, told{1, 3, true}},
		{[]int{5, 6, 7}, [][]int{{1}, {1}, {1}}, 4, told{2, 2, true}}, {[]int{5, 7, 6}, [][]int{{1}, {1}, {1}}, 4, told{1, 2, true}}, {[]int{7, 6, 5}, [][]int{{1}, {1}, {1}}, 4, told{0, 2, true}},
		// Of several the first one.
		{[]int{7, 7, 7}, [][]int{{1}, {1}, {1}}, 4, told{0, 2, true}}, {[]int{6, 7, 7}, [][]int{{1}, {1}, {1}}, 4, told{1, 2, true}}, {[]int{4, 4, 7, 7}, [][]int{{1}, {1}, {1}, {1}}, 4, told{2, 2, true}},
		{[]int{7, 7, 7}, [][]int{{1, 2}, {1}, {1}}, 4, told{1, 3, true}}, {[]int{7, 7, 7}, [][]int{{1, 2, 3, 4}, {1, 3}, {2}}, 4, told{2, 4, true}},
		// The least weight, of several the first one.
		{[]int{9}, [][]int{{1}, {2}}, 4, told{0, 3, true}}, {[]int{9}, [][]int{{1}, {2}, {3}}, 4, told{0, 4, true}}, {[]int{9}, [][]int{{1}, {2}, {3}, {4}}, 4, told{0, 2, true}}, {[]int{0, 9}, [][]int{{1}, {2}, {3}, {4}}, 4, told{1, 1, true}},
		{[]int{9}, [][]int{{1}, {2}, {3}, {4}, {2, 3}}, 4, told{0, 4, true}}, {[]int{9}, [][]int{{1}, {2, 3}, {2, 4}, {2, 3, 4}}, 4, told{0, 3, true}}, {[]int{9}, [][]int{{1}, {2, 3}, {2, 4}, {3, 4}}, 4, told{0, 2, true}},
		{[]int{9}, [][]int{{2}, {1, 3}, {1, 4}, {1, 3}}, 4, told{0, 4, true}}, {[]int{9}, [][]int{{2}, {1, 3, 4}, {3, 4}}, 4, told{0, 1, true}}, {[]int{9}, [][]int{{4}, {1, 2}, {1, 3}, {2, 3}}, 4, told{0, 1, true}},
		// One that holds it is not told, however light it is.
		{[]int{9}, [][]int{{1}, {2, 3, 4}, {2, 3, 4}}, 4, told{0, 2, true}}, {[]int{99}, [][]int{{1, 2, 3}, {4}, {4}, {4}, {4}, {4}, {4}, {4}}, 4, told{0, 4, true}},
		// Fewer counts than experts, none, and more.
		{[]int{0, 9}, [][]int{{1}, {1}, {1}}, 4, told{1, 2, true}}, {nil, [][]int{{1}, {2}}, 1, told{}}, {[]int{}, [][]int{{1}, {2}}, 1, told{}}, {[]int{1, 1, 99}, [][]int{{1}, {2}}, 4, told{}},
		{[]int{5, 1, 99, 99, 99, 99, 99, 99, 99, 99}, [][]int{{1}, {2}}, 4, told{0, 3, true}}, {[]int{0, 0, 0, 0, 0, 0, 0, 5, 99}, slices.Repeat([][]int{{3}}, 8), 4, told{7, 1, true}}, {[]int{9, 9}, nil, 1, told{}},
		// Below 0, and the greatest.
		{[]int{-9}, [][]int{{1}}, 1, told{}}, {[]int{math.MinInt, 2}, [][]int{{1}, {2}}, 1, told{1, 3, true}}, {[]int{math.MinInt, math.MinInt}, [][]int{{1}, {2}}, top, told{}},
		{[]int{2147483647}, [][]int{{1}}, 2147483647, told{}}, {[]int{2147483648}, [][]int{{1}}, 2147483647, told{0, 2, true}}, {[]int{4294967294}, [][]int{{1, 2}}, 2147483647, told{}}, {[]int{4294967295}, [][]int{{1, 2}}, 2147483647, told{0, 3, true}},
		{[]int{6442450941}, [][]int{{1, 2, 4}}, 2147483647, told{}}, {[]int{6442450942}, [][]int{{1, 2, 4}}, 2147483647, told{0, 3, true}}, {[]int{2147483647}, [][]int{{1}}, 2147483646, told{0, 2, true}}, {[]int{math.MaxInt}, [][]int{{1}}, 1, told{0, 2, true}},
	} {
		for _, epoch := range rightEpochs() {
			p := place.Map{Epoch: epoch, Holders: c.holders}
			if got, _ := checkLoad(t, c.l, p, c.high); got != c.want || hot(c.l, p, c.high) != c.want {
				t.Errorf("Hot(%s, %s, %d): %v, not %v", counts(c.l), shown(p), c.high, got, c.want)
			}
		}
	}
}

// P21.3: Cold, written out.
func TestColdWrittenOut(t *testing.T) {
	for _, c := range []struct {
		l       []int
		holders [][]int
		low     int
		want    told
	}{
		// Below, and just the bound: it is that of one holder less.
		{[]int{3}, [][]int{{1, 2}}, 4, told{0, 2, true}}, {[]int{4}, [][]int{{1, 2}}, 4, told{}}, {[]int{5}, [][]int{{1, 2}}, 4, told{}},
		{[]int{7}, [][]int{{1, 2, 3}}, 4, told{0, 3, true}}, {[]int{8}, [][]int{{1, 2, 3}}, 4, told{}}, {[]int{9}, [][]int{{1, 2, 3}}, 4, told{}},
		{[]int{11}, [][]int{{1, 2, 3, 4}}, 4, told{0, 4, true}}, {[]int{12}, [][]int{{1, 2, 3, 4}}, 4, told{}}, {[]int{13}, [][]int{{1, 2, 3, 4}}, 4, told{}},
		{[]int{0}, [][]int{{1, 2}}, 1, told{0, 2, true}}, {[]int{1}, [][]int{{1, 2}}, 1, told{}},
		// One holder alone, however little it is asked for.
		{[]int{0}, [][]int{{1}}, 4, told{}}, {[]int{math.MinInt}, [][]int{{3}}, top, told{}}, {[]int{-1, 3}, [][]int{{1}, {1, 2}}, 4, told{1, 2, true}}, {nil, [][]int{{1}, {2}, {3}, {4}}, top, told{}},
		// The last holder.
		{nil, [][]int{{1, 3}}, 4, told{0, 3, true}}, {nil, [][]int{{1, 4}}, 4, told{0, 4, true}}, {nil, [][]int{{2, 3}}, 4, told{0, 3, true}}, {nil, [][]int{{3, 4}}, 4, told{0, 4, true}},
		{nil, [][]int{{1, 2, 4}}, 4, told{0, 4, true}}, {nil, [][]int{{1, 2, 3}, {4}, {1, 4}}, 4, told{0, 3, true}}, {nil, [][]int{{1, 2}, {2}, {2}, {2, 3}}, 4, told{0, 2, true}},
		// The least count, and not the most below its bound.
		{[]int{3, 2}, [][]int{{1, 2, 3, 4}, {1, 2}}, 4, told{1, 2, true}}, {[]int{2, 3}, [][]int{{1, 2}, {1, 2, 3, 4}}, 4, told{0, 2, true}}, {[]int{3, 2}, [][]int{{1, 3}, {1, 2}}, 4, told{1, 2, true}},
		{[]int{1, 2, 3}, [][]int{{1, 2}, {1, 3}, {1, 4}}, 4, told{0, 2, true}}, {[]int{2, 1, 3}, [][]int{{1, 2}, {1, 3}, {1, 4}}, 4, told{1, 3, true}}, {[]int{3, 2, 1}, [][]int{{1, 2}, {1, 3}, {1, 4}}, 4, told{2, 4, true}},
		{[]int{4, 5}, [][]int{{1, 2}, {1, 2, 3}}, 4, told{1, 3, true}},
		// Of several the first one.
		{[]int{2, 2, 2}, [][]int{{1, 2}, {1, 3}, {1, 4}}, 4, told{0, 2, true}}, {[]int{3, 2, 2}, [][]int{{1, 2}, {1, 3}, {1, 4}}, 4, told{1, 3, true}}, {[]int{2, 2, 2}, [][]int{{1}, {1, 3}, {1, 4}}, 4, told{1, 3, true}},
		{[]int{4, 4, 4}, [][]int{{1, 2}, {1, 3}, {1, 2, 4}}, 4, told{2, 4, true}}, {[]int{4, 4, 4, 4}, [][]int{{1, 2}, {1, 2, 3}, {1, 2, 4}, {1, 2, 3, 4}}, 4, told{1, 3, true}},
		// Fewer counts than experts, none, and more.
		{[]int{3}, [][]int{{1, 2}, {1, 3}}, 4, told{1, 3, true}}, {[]int{9}, [][]int{{1, 2}, {3}, {1, 4}}, 4, told{2, 4, true}}, {nil, [][]int{{1, 2}, {1, 3}}, 1, told{0, 2, true}}, {[]int{}, [][]int{{4}, {1, 3}}, 1, told{1, 3, true}},
		{[]int{9, 3, 0, -1}, [][]int{{1, 2}, {1, 3}}, 4, told{1, 3, true}}, {[]int{9, 9, 0, 0, 0, 0, 0, 0, -1, -2}, [][]int{{1, 2}, {1, 3}}, 4, told{}}, {[]int{0, 0}, nil, 4, told{}},
		// Below 0, and the greatest.
		{[]int{0, -1}, [][]int{{1, 2}, {1, 3}}, 1, told{1, 3, true}}, {[]int{1, -1}, [][]int{{1, 2}, {1, 3}}, 1, told{1, 3, true}}, {[]int{-1}, [][]int{{1, 2}, {1, 3}}, 4, told{0, 2, true}}, {[]int{math.MinInt + 1, math.MinInt}, [][]int{{1, 2}, {1, 3}}, 1, told{1, 3, true}},
		{[]int{2147483646}, [][]int{{1, 2}}, 2147483647, told{0, 2, true}}, {[]int{2147483647}, [][]int{{1, 2}}, 2147483647, told{}}, {[]int{2147483645}, [][]int{{1, 2}}, 2147483646, told{0, 2, true}}, {[]int{2147483646}, [][]int{{1, 2}}, 2147483646, told{}},
		{[]int{4294967293}, [][]int{{1, 2, 3}}, 2147483647, told{0, 3, true}}, {[]int{4294967294}, [][]int{{1, 2, 3}}, 2147483647, told{}}, {[]int{6442450940}, [][]int{{1, 2, 3, 4}}, 2147483647, told{0, 4, true}}, {[]int{6442450941}, [][]int{{1, 2, 3, 4}}, 2147483647, told{}},
		{[]int{math.MaxInt}, [][]int{{1, 2}}, top, told{}}, {[]int{math.MaxInt, math.MaxInt}, [][]int{{1, 2, 3, 4}, {1, 2, 3, 4}}, top, told{}},
	} {
		for _, epoch := range rightEpochs() {
			p := place.Map{Epoch: epoch, Holders: c.holders}
			if _, got := checkLoad(t, c.l, p, c.low); got != c.want || cold(c.l, p, c.low) != c.want {
				t.Errorf("Cold(%s, %s, %d): %v, not %v", counts(c.l), shown(p), c.low, got, c.want)
			}
		}
	}
}

// P21.2, P21.3: a map that is not right, in each way, tells nothing, whatever is
// counted. R2: then each result is zero.
func TestWrongMaps(t *testing.T) {
	lists := [][]int{nil, {99, 99, 99, 99, 99, 99, 99, 99}, {0, 99}, {99, 0, 1, 2, 3, 4, 5, 6}, slices.Repeat([]int{math.MaxInt}, 20), slices.Repeat([]int{math.MinInt}, 20)}
	for _, p := range wrongOnes() {
		if place.Right(p) {
			t.Fatalf("the test's own: %s", shown(p))
		}
		for _, l := range lists {
			for _, bound := range []int{1, 4, 100, top, 0, -1} {
				if h, c := hot(l, p, bound), cold(l, p, bound); h != (told{}) || c != (told{}) {
					t.Errorf("%s, %s, %d: %v, %v", counts(l), shown(p), bound, h, c)
				}
			}
		}
	}
}

// P21.2, P21.3: a bound that is wrong tells nothing; any other one, up to the
// last one, does.
func TestBounds(t *testing.T) {
	p := place.Map{Holders: [][]int{{1}, {1, 2, 4}, {3}}}
	for _, bound := range wrongBounds() {
		for _, l := range [][]int{nil, {math.MaxInt, math.MinInt, 4}, {math.MinInt, math.MaxInt, 9}, {9, 9, 9}, {-9, -9, -9}, {bound, bound, bound}} {
			if h, c := hot(l, p, bound), cold(l, p, bound); h != (told{}) || c != (told{}) {
				t.Errorf("%s, %d: %v, %v", counts(l), bound, h, c)
			}
			checkLoad(t, l, p, bound)
		}
	}
	for _, bound := range rightBounds() {
		l := []int{math.MaxInt, math.MinInt, 4}
		if h, c := hot(l, p, bound), cold(l, p, bound); h != (told{0, 2, true}) || c != (told{1, 4, true}) {
			t.Errorf("%s, %d: %v, %v", counts(l), bound, h, c)
		}
	}
}

// P21.2, P21.3: a count at its bound exactly, one above and one below, for all
// that Holders can be, at each place, beside experts that are never told.
func TestEdges(t *testing.T) {
	for _, nodes := range rightLists() {
		for _, bound := range rightBounds() {
			for _, at := range []int{0, 1, 7} {
				for off := -2; off <= 2; off++ {
					checkEdges(t, nodes, bound, at, off)
				}
			}
		}
	}
}

func checkEdges(t *testing.T, nodes []int, bound, at, off int) {
	t.Helper()
	many := len(nodes)
	// What all hold is never hot, what one alone holds is never cold.
	p, l := place.Map{Epoch: 5, Holders: slices.Repeat([][]int{{1, 2, 3, 4}}, 8)}, slices.Repeat([]int{math.MaxInt}, 8)
	p.Holders[at], l[at] = nodes, bound*many+off
	other := 1
	for slices.Contains(nodes, other) {
		other++
	}
	want := told{at, other, true}
	if off <= 0 || many == 4 {
		want = told{}
	}
	if got := hot(l, p, bound); got != want {
		t.Errorf("Hot(%s, %s, %d): %v, not %v", counts(l), shown(p), bound, got, want)
	}
	q, l := place.Map{Epoch: 5, Holders: slices.Repeat([][]int{{2}}, 8)}, slices.Repeat([]int{math.MinInt}, 8)
	q.Holders[at], l[at] = nodes, bound*(many-1)+off
	want = told{at, nodes[many-1], true}
	if off >= 0 || many == 1 {
		want = told{}
	}
	if got := cold(l, q, bound); got != want {
		t.Errorf("Cold(%s, %s, %d): %v, not %v", counts(l), shown(q), bound, got, want)
	}
}

// P21.2, P21.3, P21.4: all maps of one and of two experts, with few counts and
// bounds, against the chapter's words.
func TestAllSmall(t *testing.T) {
	for _, first := range rightLists() {
		for _, second := range append(rightLists(), nil) {
			p := place.Map{Epoch: 8, Holders: [][]int{first, second}}
			if second == nil {
				p.Holders = p.Holders[:1]
			}
			for a := -1; a <= 9; a++ {
				for b := -1; b <= 9; b += 2 {
					checkLoad(t, []int{a, b}, p, 1+(a+b+2)%3)
				}
				checkLoad(t, []int{a, a}, p, 2)
				checkLoad(t, []int{a}, p, 3)
			}
		}
	}
}

// P21.2, P21.3: whichever of eight experts have the greatest count, or the least
// one, the first of them is told.
func TestFirstOfSeveral(t *testing.T) {
	for set := 1; set < 256; set++ {
		l, m := slices.Repeat([]int{40}, 8), slices.Repeat([]int{2}, 8)
		first := -1
		for i := range 8 {
			if set>>i&1 == 1 {
				l[i], m[i] = 41, 1
				if first < 0 {
					first = i
				}
			}
		}
		p := place.Map{Epoch: 5, Holders: slices.Repeat([][]int{{2, 3}}, 8)}
		if h, c := hot(l, p, 4), cold(m, p, 4); h != (told{first, 1, true}) || c != (told{first, 3, true}) {
			t.Errorf("%d, %d: %v, %v", l, m, h, c)
		}
		checkLoad(t, l, p, 4)
		checkLoad(t, m, p, 4)
	}
}

// P21.2: whatever the weights of three nodes, the first of the lightest is told.
func TestLightest(t *testing.T) {
	for holder := 1; holder <= 4; holder++ {
		for weights := range 4 * 4 * 4 {
			left := []int{weights % 4, weights / 4 % 4, weights / 16}
			light := slices.Index(left, slices.Min(left))
			p := place.Map{Epoch: 5, Holders: [][]int{{holder}}}
			for turn := range 3 {
				nodes := []int(nil)
				for i, many := range left {
					node := (holder+i)%4 + 1
					if turn < many {
						nodes = append(nodes, node)
					}
				}
				slices.Sort(nodes)
				if len(nodes) > 0 {
					p.Holders = append(p.Holders, nodes)
				}
			}
			got, _ := checkLoad(t, []int{9}, p, 4)
			if got.expert != 0 || !got.ok || Weight(p, got.node) != left[light] {
				t.Errorf("%s: %v", shown(p), got)
			}
			for node := 1; node < got.node; node++ {
				if node != holder && Weight(p, node) <= Weight(p, got.node) {
					t.Errorf("%s: %v, and not %d", shown(p), got, node)
				}
			}
		}
	}
}

// drawn is a map that is right as often as not.
func (m *mixed) drawn() place.Map {
	epochs := slices.Concat([]int{3, 4, 5, 6, 7, 8, 9, 10, 11, 12, 13, 14, 15}, rightEpochs(), []int{-1, top + 1})
	all := place.Map{Epoch: epochs[m.next(len(epochs))]}
	spoiled := m.next(3) == 0
	for range m.next(9 + m.next(2)) {
		nodes := rightLists()[m.next(15)]
		if spoiled && m.next(4) == 0 {
			nodes = wrongLists()[m.next(len(wrongLists()))]
		}
		if spoiled && m.next(4) == 0 {
			nodes = []int{m.next(7) - 1, m.next(7) - 1}
		}
		all.Holders = append(all.Holders, nodes)
	}
	return all
}

// counted are counts around a bound, few of them unlike, and now and then an
// extreme.
func (m *mixed) counted(bound int) []int {
	var all []int
	for range m.next(12) {
		n := bound*m.next(5) + m.next(3) - 1
		if m.next(10) == 0 {
			n = extremes()[m.next(len(extremes()))]
		}
		all = append(all, n)
	}
	return all
}

// P21.1 to P21.4: drawn maps, counts and bounds, right and not, against the
// chapter's words.
func TestDrawn(t *testing.T) {
	draw := mixed(2121)
	hots, colds := 0, 0
	for range 30000 {
		p := draw.drawn()
		bound := 1 + draw.next(4)
		if draw.next(6) == 0 {
			bound = extremes()[draw.next(len(extremes()))]
		}
		l := draw.counted(bound)
		h, c := checkLoad(t, l, p, bound)
		if h.ok {
			hots++
		}
		if c.ok {
			colds++
		}
		checkWeight(t, p, draw.next(7)-1)
		checkCounts(t, l, draw.next(11)-1)
	}
	if min(hots, colds) < 5000 || max(hots, colds) > 25000 {
		t.Errorf("of 30000: %d hot, %d cold", hots, colds)
	}
}

// P21.4: who goes on adding what Hot tells comes to an end, at which all that is
// asked for too much is held by all, and likewise with Cold.
func TestTurnedOnAndOn(t *testing.T) {
	draw := mixed(214)
	for range 300 {
		p := place.Map{Epoch: draw.next(100)}
		for range 1 + draw.next(8) {
			p.Holders = append(p.Holders, rightLists()[draw.next(15)])
		}
		l, bound := draw.counted(5), 5
		for turns := 0; ; turns++ {
			h, _ := checkLoad(t, l, p, bound)
			if !h.ok {
				break
			}
			if p, _ = place.Add(p, h.expert, h.node); turns > 24 {
				t.Fatalf("%d, %s: no end of Hot", l, shown(p))
			}
		}
		for turns := 0; ; turns++ {
			_, c := checkLoad(t, l, p, bound)
			if !c.ok {
				break
			}
			if p, _ = place.Retire(p, c.expert, c.node); turns > 24 {
				t.Fatalf("%d, %s: no end of Cold", l, shown(p))
			}
		}
	}
}

// spoil writes into all memory that counts can reach.
func spoil(l []int) {
	l = l[:cap(l)]
	for i := range l {
		l[i] = -7
	}
}

// R1: counts that are handed in stay as they are, up to the end of their memory,
// and those that are answered share none of it. R4: the room behind counts not.
func TestCountsStay(t *testing.T) {
	for _, l := range [][]int{nil, {}, {4}, {4, 5, 6}, {1, 2, 3, 4, 5, 6, 7}, {1, 2, 3, 4, 5, 6, 7, 8}, {top, top - 1, 0, -1}, slices.Repeat([]int{3}, 20)} {
		for _, room := range []int{0, 1, 2, 40} {
			for expert := -1; expert < 22; expert++ {
				memory := append(slices.Clone(l), slices.Repeat([]int{-900}, room)...)
				was := slices.Clone(memory)
				handed := memory[:len(l)]
				got := checkCounts(t, handed, expert)
				if !slices.Equal(memory, was) {
					t.Fatalf("Note(%d, %d), room for %d: the memory is now %d", l, expert, room, memory)
				}
				kept := slices.Clone(got)
				spoil(memory)
				if !slices.Equal(got, kept) {
					t.Fatalf("Note(%d, %d), room for %d: the answer changes with l", l, expert, room)
				}
				copy(memory, was)
				spoil(got)
				if !slices.Equal(memory, was) {
					t.Fatalf("Note(%d, %d), room for %d: l changes with the answer", l, expert, room)
				}
			}
		}
	}
}

// R1: an answer is left as it was by what a second call does, with the same
// counts or with the answer.
func TestAnswersStay(t *testing.T) {
	for _, l := range [][]int{nil, {4}, {4, 5, 6}, slices.Repeat([]int{3}, 10)} {
		for _, room := range []int{0, 9} {
			roomy := append(make([]int, 0, len(l)+room), l...)
			for expert := -1; expert < 10; expert++ {
				first := Note(roomy, expert)
				kept := slices.Clone(first)
				for then := -1; then < 10; then++ {
					second, third := Note(roomy, then), Note(first, then)
					spoil(second)
					spoil(third)
					if !slices.Equal(first, kept) {
						t.Fatalf("Note(%d, %d), then %d: %d, not %d", l, expert, then, first, kept)
					}
				}
			}
		}
	}
}

// R1, R4: the room behind a map's lists, and behind the counts, counts not, and
// stays as it is.
func TestMapsStay(t *testing.T) {
	draw := mixed(12)
	for range 300 {
		p, bound := draw.drawn(), 1+draw.next(4)
		l := draw.counted(bound)
		memory := append(slices.Clone(l), 99, 99, 99, 99, 99, 99, 99, 99)
		handed := place.Map{Epoch: p.Epoch}
		for _, nodes := range p.Holders {
			handed.Holders = append(handed.Holders, append(slices.Clone(nodes), 1, 2, 3, 4)[:len(nodes)])
		}
		handed.Holders = append(handed.Holders, []int{1}, []int{2, 3})[:len(p.Holders)]
		was := apart(place.Map{Holders: handed.Holders[:len(p.Holders)+2]})
		h, c := checkLoad(t, memory[:len(l)], handed, bound)
		if h != hot(l, p, bound) || c != cold(l, p, bound) {
			t.Fatalf("%s, %s, %d: the room counts: %v, %v", counts(l), shown(p), bound, h, c)
		}
		for node := range 6 {
			checkWeight(t, handed, node)
		}
		if !sameMap(place.Map{Holders: handed.Holders[:len(p.Holders)+2]}, was) || !slices.Equal(memory, append(slices.Clone(l), 99, 99, 99, 99, 99, 99, 99, 99)) {
			t.Fatalf("%s, %s: the memory is changed", counts(l), shown(p))
		}
		for i, nodes := range p.Holders {
			if room := handed.Holders[i][len(nodes) : len(nodes)+4]; !slices.Equal(room, []int{1, 2, 3, 4}) {
				t.Fatalf("%s, list %d: behind it now %d", shown(p), i, room)
			}
		}
	}
}

// P1: many counts, and great maps, that are not right, have an answer as well.
func TestGreatOnes(t *testing.T) {
	l := slices.Repeat([]int{9}, 1000000)
	for _, expert := range []int{-1, 0, 7, 8, 999999, 1000000} {
		if n := Count(l, expert); n != 9 && expert >= 0 && expert < 1000000 {
			t.Errorf("Count of %d: %d", expert, n)
		}
		got, want := Note(l, expert), slices.Clone(l)
		if expert == 0 || expert == 7 {
			want[expert] = 10
		}
		if !slices.Equal(got, want) {
			t.Errorf("Note of %d: %s", expert, counts(got))
		}
	}
	if got := hot(l, place.Map{Holders: [][]int{{1}, {2}}}, 4); got != (told{0, 3, true}) {
		t.Errorf("Hot of many counts: %v", got)
	}
	for _, p := range []place.Map{{Holders: make([][]int, 100000)}, {Holders: slices.Repeat([][]int{{1}}, 100000)}, {Holders: [][]int{slices.Repeat([]int{1}, 1000000)}}} {
		for node := range 6 {
			checkWeight(t, p, node)
		}
		checkLoad(t, l[:10], p, 4)
	}
}

// FuzzLoad reads Holders from bytes: each is a number with a sign, and -128 parts
// an expert's from the next one's; counts are a bound taken so many times, and
// what is beside it.
func FuzzLoad(f *testing.F) {
	f.Add(4, []byte{1, 2, 128, 1, 128, 1, 2, 3, 4}, []byte{9, 9, 99}, 4, 0, 3)
	f.Add(top, []byte{1, 128, 1}, []byte{9, 1}, 4, 1, 2)
	f.Add(-1, []byte{128, 5, 0, 255}, []byte{}, 1, 8, 4)
	f.Add(7, []byte{1, 3, 128, 2, 4, 128, 1, 2, 4}, []byte{8, 4, 12, 16, 20, 24, 28, 32, 36}, top, math.MinInt, math.MaxInt)
	f.Fuzz(func(t *testing.T, epoch int, data, parts []byte, bound, expert, node int) {
		if len(data)+len(parts) > 500 {
			t.Skip()
		}
		p := place.Map{Epoch: epoch}
		for _, part := range bytes.Split(data, []byte{128}) {
			var nodes []int
			for _, b := range part {
				nodes = append(nodes, int(int8(b)))
			}
			p.Holders = append(p.Holders, nodes)
		}
		plain, scaled := make([]int, len(parts)), make([]int, len(parts))
		for i, b := range parts {
			plain[i] = int(int8(b))
			scaled[i] = int(int8(b)>>2)*bound + int(b&3) - 1
		}
		for _, l := range [][]int{plain, scaled} {
			checkLoad(t, l, p, bound)
			checkCounts(t, l, expert)
		}
		checkWeight(t, p, node)
	})
}
