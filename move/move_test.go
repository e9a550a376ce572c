package move

import (
	"bytes"
	"fmt"
	"hash/crc32"
	"math"
	"slices"
	"strings"
	"testing"

	"switchboard/api"
	"switchboard/chunk"
	"switchboard/place"
)

const top = 1<<31 - 1

// mixed gives numbers that are always the same ones for a seed.
type mixed uint64

func (m *mixed) next(below int) int {
	*m = *m*6364136223846793005 + 1442695040888963407
	return int(uint64(*m)>>33) % below
}

// bytes are so many, of a few that are alike more often than not.
func (m *mixed) bytes(many int) string {
	all := make([]byte, many)
	span := 1 + m.next(256)
	for i := range all {
		all[i] = byte(m.next(span))
	}
	return string(all)
}

// order is each place below many, once.
func (m *mixed) order(many int) []int {
	var all []int
	for i := range many {
		all = slices.Insert(all, m.next(i+1), i)
	}
	return all
}

// extremes are numbers around which something could turn.
func extremes() []int {
	return []int{
		math.MinInt, math.MinInt + 1, -1 << 32, -1<<32 + 1, math.MinInt32 - 1, math.MinInt32, -top, -65, -64, -9, -8, -5, -4, -3, -2, -1,
		0, 1, 2, 3, 4, 5, 6, 7, 8, 9, 10, 63, 64, 65, 66, 128, 255, 256, 257, 258, 65536, top - 2, top - 1, top, top + 1, top + 2,
		1<<32 - 1, 1 << 32, 1<<32 + 1, 1<<32 + 2, 1<<32 + 64, 1 << 62, math.MaxInt - 1, math.MaxInt,
	}
}

func without(least, greatest int) []int {
	return slices.DeleteFunc(extremes(), func(n int) bool { return n >= least && n <= greatest })
}

// wrongNodes, wrongSizes and wrongEpochs are numbers that no node, no size and no
// map has.
func wrongNodes() []int  { return without(1, 4) }
func wrongSizes() []int  { return without(1, 64) }
func wrongEpochs() []int { return without(0, 2147483647) }

func rightEpochs() []int { return []int{0, 1, 7, 65536, top - 2, top - 1, top} }

// rightLists are all that an expert's Holders can be, written out.
func rightLists() [][]int {
	return [][]int{
		{1}, {2}, {3}, {4}, {1, 2}, {1, 3}, {1, 4}, {2, 3}, {2, 4}, {3, 4},
		{1, 2, 3}, {1, 2, 4}, {1, 3, 4}, {2, 3, 4}, {1, 2, 3, 4},
	}
}

// wrongLists are Holders that are wrong, each in one way.
func wrongLists() [][]int {
	all := [][]int{
		nil, {}, make([]int, 0, 4), {0, 1}, {-1, 1}, {1, 5}, {4, 5}, {0, 1, 2, 3}, {2, 3, 4, 5}, {1, 2, 3, 4, 5}, {0, 1, 2, 3, 4},
		{1, 1}, {2, 2}, {4, 4}, {1, 2, 2}, {1, 1, 2}, {1, 2, 2, 3}, {1, 2, 1}, {1, 1, 1, 1}, {1, 2, 3, 4, 4},
		{2, 1}, {4, 1}, {3, 2, 1}, {1, 3, 2}, {2, 1, 3}, {4, 3, 2, 1}, {1, 2, 4, 3}, {2, 1, 3, 4},
		{math.MinInt, 1}, {1, math.MaxInt}, {math.MaxInt, 1}, {1, 1<<32 + 2}, slices.Repeat([]int{1, 2, 3, 4}, 100),
	}
	for _, n := range wrongNodes() {
		all = append(all, []int{n})
	}
	return all
}

// experts are so many lists, of all that are right one after the other.
func experts(many int) [][]int {
	all := make([][]int, many)
	for i := range all {
		all[i] = rightLists()[(4*i+many)%15]
	}
	return all
}

// rightMaps are of none, one, and up to 8 experts, each of them once with each
// list.
func rightMaps() []place.Map {
	var all []place.Map
	for _, epoch := range rightEpochs() {
		all = append(all, place.Map{Epoch: epoch}, place.Map{Epoch: epoch, Holders: [][]int{}})
		for many := 1; many <= 8; many++ {
			all = append(all, place.Map{Epoch: epoch, Holders: experts(many)})
		}
	}
	for _, nodes := range rightLists() {
		for _, holders := range [][][]int{{nodes}, {{2}, nodes, {1, 3}}, slices.Repeat([][]int{nodes}, 8)} {
			all = append(all, place.Map{Epoch: 4, Holders: holders})
		}
	}
	return all
}

// wrongMaps are wrong each in one way: by their Epoch, by how many experts there
// are, by the Holders of one expert at each place.
func wrongMaps() []place.Map {
	var all []place.Map
	for _, epoch := range wrongEpochs() {
		for _, many := range []int{0, 1, 2, 8} {
			all = append(all, place.Map{Epoch: epoch, Holders: experts(many)})
		}
	}
	for _, many := range []int{9, 10, 16, 17, 256, 257} {
		all = append(all, place.Map{Holders: experts(many)}, place.Map{Epoch: top, Holders: experts(many)})
	}
	for _, nodes := range wrongLists() {
		for _, many := range []int{1, 2, 3, 8} {
			for at := range many {
				holders := experts(many)
				holders[at] = nodes
				all = append(all, place.Map{Epoch: 3, Holders: holders})
			}
		}
	}
	return all
}

// shown and shownMap keep what a test says of a move, and of a map, short.
func shown(m Move) string {
	return fmt.Sprintf("{%d: %d to %d, phase %d, sum %d, %.80s (%d), %.150q (%d)}",
		m.Expert, m.From, m.To, m.Phase, m.Sum, fmt.Sprint(m.Has), len(m.Has), m.Got, len(m.Got))
}

func shownMap(p place.Map) string {
	return fmt.Sprintf("{%d %.150s (%d)}", p.Epoch, fmt.Sprint(p.Holders), len(p.Holders))
}

func sameMap(p, q place.Map) bool {
	return p.Epoch == q.Epoch && slices.EqualFunc(p.Holders, q.Holders, slices.Equal[[]int])
}

func sameMove(m, n Move) bool {
	alike := m.Expert == n.Expert && m.From == n.From && m.To == n.To && m.Phase == n.Phase && m.Sum == n.Sum
	return alike && slices.Equal(m.Has, n.Has) && slices.Equal(m.Got, n.Got)
}

// apart and apartMap are ones that are alike, in memory of their own.
func apart(m Move) Move {
	m.Has = append([]bool(nil), m.Has...)
	m.Got = append([]string(nil), m.Got...)
	return m
}

func apartMap(p place.Map) place.Map {
	other := place.Map{Epoch: p.Epoch}
	for _, nodes := range p.Holders {
		other.Holders = append(other.Holders, append([]int(nil), nodes...))
	}
	return other
}

func in(n int, these ...int) bool { return slices.Contains(these, n) }

// wantSum is the library's own sum of IEEE 802.3.
func wantSum(s string) int { return int(crc32.ChecksumIEEE([]byte(s))) }

// wantRight and wantAdd are chapter 17's words.
func wantRight(p place.Map) bool {
	for _, nodes := range p.Holders {
		if !slices.ContainsFunc(rightLists(), func(l []int) bool { return slices.Equal(l, nodes) }) {
			return false
		}
	}
	return p.Epoch >= 0 && p.Epoch <= 2147483647 && len(p.Holders) <= 8
}

func wantAdd(p place.Map, expert, node int) (place.Map, api.Errno) {
	if !wantRight(p) || expert < 0 || expert >= len(p.Holders) || !in(node, 1, 2, 3, 4) || p.Epoch == 2147483647 {
		return p, 1
	}
	if in(node, p.Holders[expert]...) {
		return p, 5
	}
	next := apartMap(p)
	next.Epoch++
	next.Holders[expert] = append(next.Holders[expert], node)
	slices.Sort(next.Holders[expert])
	return next, 0
}

// wantPieces are chapter 16's words, byte by byte.
func wantPieces(text string, size int) []string {
	var all []string
	for i := range len(text) {
		if i%size == 0 {
			all = append(all, "")
		}
		all[len(all)-1] += text[i : i+1]
	}
	return all
}

// wantBegin, wantPiece, wantCommit, wantAbort and wantText are the chapter's words.
func wantBegin(p place.Map, expert, from, to int, text string, size int) (Move, []string, api.Errno) {
	holds := func(node int) bool {
		return expert >= 0 && expert < len(p.Holders) && in(node, p.Holders[expert]...)
	}
	if !wantRight(p) || !holds(from) || !in(to, 1, 2, 3, 4) || text == "" || size < 1 || size > 64 {
		return Move{}, nil, 1
	}
	if holds(to) {
		return Move{}, nil, 5
	}
	pieces := wantPieces(text, size)
	m := Move{Expert: expert, From: from, To: to, Phase: 1, Sum: wantSum(text)}
	for range pieces {
		m.Has, m.Got = append(m.Has, false), append(m.Got, "")
	}
	return m, pieces, 0
}

func wantPiece(m Move, i int, s string) (Move, api.Errno) {
	if m.Phase != 1 || len(m.Has) != len(m.Got) || i < 0 || i >= len(m.Got) {
		return m, 1
	}
	if m.Has[i] {
		return m, 5
	}
	n, missing, all := m, 0, ""
	n.Has, n.Got = nil, nil
	for k := range m.Has {
		has, got := m.Has[k], m.Got[k]
		if k == i {
			has, got = true, s
		}
		if !has {
			missing++
		}
		all += got
		n.Has, n.Got = append(n.Has, has), append(n.Got, got)
	}
	if missing > 0 {
		return n, 0
	}
	if wantSum(all) == m.Sum {
		n.Phase = 2
		return n, 0
	}
	n.Phase = 4
	return n, 9
}

func wantCommit(m Move, p place.Map) (Move, place.Map, api.Errno) {
	if m.Phase != 2 {
		return m, p, 1
	}
	q, e := wantAdd(p, m.Expert, m.To)
	if e == 0 {
		m.Phase = 3
	}
	return m, q, e
}

func wantAbort(m Move) (Move, api.Errno) {
	if m.Phase == 3 {
		return m, 7
	}
	m.Phase = 4
	return m, 0
}

func wantText(m Move) (string, bool) {
	all := ""
	if m.Phase == 2 || m.Phase == 3 {
		for _, s := range m.Got {
			all += s
		}
	}
	return all, m.Phase == 2 || m.Phase == 3
}

// checkBegin, checkPiece, checkCommit, checkAbort and checkText hold a call
// against the chapter, two times, and what was handed in against what it was.
func checkBegin(t *testing.T, p place.Map, expert, from, to int, text string, size int) (Move, []string, api.Errno) {
	t.Helper()
	was := apartMap(p)
	want, pieces, e := wantBegin(was, expert, from, to, text, size)
	var m Move
	var l []string
	var got api.Errno
	for range 2 {
		m, l, got = Begin(p, expert, from, to, text, size)
		if got != e || !sameMove(m, want) || !slices.Equal(l, pieces) {
			t.Fatalf("Begin(%s, %d, %d, %d, %.80q, %d): %s, %.150q, %d, not %s, %.150q, %d",
				shownMap(was), expert, from, to, text, size, shown(m), l, got, shown(want), pieces, e)
		}
		if !sameMap(p, was) {
			t.Fatalf("Begin(%s, %d, %d, %d, %.80q, %d): the map is now %s", shownMap(was), expert, from, to, text, size, shownMap(p))
		}
	}
	return m, l, got
}

func checkPiece(t *testing.T, m Move, i int, s string) (Move, api.Errno) {
	t.Helper()
	was := apart(m)
	want, e := wantPiece(was, i, s)
	var n Move
	var got api.Errno
	for range 2 {
		if n, got = Piece(m, i, s); got != e || !sameMove(n, want) {
			t.Fatalf("Piece(%s, %d, %.80q): %s, %d, not %s, %d", shown(was), i, s, shown(n), got, shown(want), e)
		}
		if !sameMove(m, was) {
			t.Fatalf("Piece(%s, %d, %.80q): the move is now %s", shown(was), i, s, shown(m))
		}
	}
	return n, got
}

func checkCommit(t *testing.T, m Move, p place.Map) (Move, place.Map, api.Errno) {
	t.Helper()
	was, old := apart(m), apartMap(p)
	want, turned, e := wantCommit(was, old)
	var n Move
	var q place.Map
	var got api.Errno
	for range 2 {
		if n, q, got = Commit(m, p); got != e || !sameMove(n, want) || !sameMap(q, turned) {
			t.Fatalf("Commit(%s, %s): %s, %s, %d, not %s, %s, %d", shown(was), shownMap(old), shown(n), shownMap(q), got, shown(want), shownMap(turned), e)
		}
		if !sameMove(m, was) || !sameMap(p, old) {
			t.Fatalf("Commit(%s, %s): these are now %s, %s", shown(was), shownMap(old), shown(m), shownMap(p))
		}
	}
	return n, q, got
}

func checkAbort(t *testing.T, m Move) (Move, api.Errno) {
	t.Helper()
	was := apart(m)
	want, e := wantAbort(was)
	var n Move
	var got api.Errno
	for range 2 {
		if n, got = Abort(m); got != e || !sameMove(n, want) {
			t.Fatalf("Abort(%s): %s, %d, not %s, %d", shown(was), shown(n), got, shown(want), e)
		}
		if !sameMove(m, was) {
			t.Fatalf("Abort(%s): the move is now %s", shown(was), shown(m))
		}
	}
	return n, got
}

func checkText(t *testing.T, m Move) (string, bool) {
	t.Helper()
	was := apart(m)
	want, ok := wantText(was)
	for range 2 {
		if s, got := Text(m); got != ok || s != want {
			t.Fatalf("Text(%s): %.80q, %v, not %.80q, %v", shown(was), s, got, want, ok)
		}
		if !sameMove(m, was) {
			t.Fatalf("Text(%s): the move is now %s", shown(was), shown(m))
		}
	}
	return want, ok
}

// checkAll holds all calls that are handed a move.
func checkAll(t *testing.T, m Move, i int, s string, p place.Map) {
	t.Helper()
	checkPiece(t, m, i, s)
	checkCommit(t, m, p)
	checkAbort(t, m)
	checkText(t, m)
}

// two are the maps of most tests: the expert 0 at the node 1, the expert 1 at 2
// and 3.
func two() place.Map { return place.Map{Epoch: 7, Holders: [][]int{{1}, {2, 3}}} }

// begun is a move of the expert 0 from 1 to 2, and its pieces.
func begun(t *testing.T, text string, size int) (Move, []string) {
	t.Helper()
	m, l, e := checkBegin(t, two(), 0, 1, 2, text, size)
	if e != api.OK {
		t.Fatalf("Begin of %.80q by %d: %d", text, size, e)
	}
	return m, l
}

// phases are all that there are, and some that there are not.
func phases() []int { return append([]int{5, 6, 7, 8, 9, 10, 11}, extremes()...) }

// The chapter's example.
func TestExample(t *testing.T) {
	m, l := begun(t, "ab", 1)
	if !slices.Equal(l, []string{"a", "b"}) || m.Phase != Prepared {
		t.Fatalf("Begin: %s, %q", shown(m), l)
	}
	m, e := checkPiece(t, m, 1, "b")
	if e != api.OK || m.Phase != Prepared {
		t.Fatalf("b at 1: %s, %d", shown(m), e)
	}
	m, e = checkPiece(t, m, 0, "a")
	if e != api.OK || m.Phase != Copied {
		t.Fatalf("a at 0: %s, %d", shown(m), e)
	}
	if s, ok := checkText(t, m); s != "ab" || !ok {
		t.Errorf("Text: %q, %v", s, ok)
	}
}

// The numbers of the phases, the errors and the limits.
func TestNumbers(t *testing.T) {
	if Prepared != 1 || Copied != 2 || Committed != 3 || Aborted != 4 {
		t.Errorf("the phases: %d, %d, %d, %d", Prepared, Copied, Committed, Aborted)
	}
	if api.OK != 0 || api.ErrArg != 1 || api.ErrThere != 5 || api.ErrLast != 7 || api.ErrSum != 9 {
		t.Errorf("the errors: %d, %d, %d, %d, %d", api.OK, api.ErrArg, api.ErrThere, api.ErrLast, api.ErrSum)
	}
	if api.MaxNodes != 4 || api.MaxChunk != 64 || api.MaxExperts != 8 || api.Top != top {
		t.Errorf("the limits: %d, %d, %d, %d", api.MaxNodes, api.MaxChunk, api.MaxExperts, api.Top)
	}
}

// P22.1: Begin, written out, field by field.
func TestBeginWrittenOut(t *testing.T) {
	for _, c := range []struct {
		expert, from, to int
		text             string
		size             int
		sum              int
		pieces           []string
	}{
		{0, 1, 2, "123456789", 4, 3421780262, []string{"1234", "5678", "9"}},
		{0, 1, 3, "123456789", 3, 3421780262, []string{"123", "456", "789"}},
		{0, 1, 4, "123456789", 9, 3421780262, []string{"123456789"}},
		{0, 1, 4, "123456789", 64, 3421780262, []string{"123456789"}},
		{1, 2, 1, "123456789", 8, 3421780262, []string{"12345678", "9"}},
		{1, 3, 4, "123456789", 1, 3421780262, []string{"1", "2", "3", "4", "5", "6", "7", "8", "9"}},
		{1, 3, 1, "a", 1, 3904355907, []string{"a"}},
		{1, 2, 4, "abc", 2, 891568578, []string{"ab", "c"}},
		{0, 1, 2, "\x00", 1, 3523407757, []string{"\x00"}},
		{0, 1, 2, "\x00\xff\x00", 2, int(crc32.ChecksumIEEE([]byte{0, 255, 0})), []string{"\x00\xff", "\x00"}},
		{0, 1, 2, strings.Repeat("x", 65), 64, int(crc32.ChecksumIEEE(bytes.Repeat([]byte("x"), 65))), []string{strings.Repeat("x", 64), "x"}},
	} {
		m, l, e := checkBegin(t, two(), c.expert, c.from, c.to, c.text, c.size)
		if e != 0 || m.Expert != c.expert || m.From != c.from || m.To != c.to || m.Phase != 1 || m.Sum != c.sum {
			t.Errorf("%v: %s, %d", c, shown(m), e)
		}
		if len(m.Has) != len(c.pieces) || len(m.Got) != len(c.pieces) || slices.Contains(m.Has, true) {
			t.Errorf("%v: %s, %d", c, shown(m), e)
		}
		if strings.Join(m.Got, "") != "" || !slices.Equal(l, c.pieces) {
			t.Errorf("%v: %s, %q", c, shown(m), l)
		}
	}
}

// wantRefused wants an error of Begin, with nothing beside it (R2).
func wantRefused(t *testing.T, p place.Map, expert, from, to int, text string, size int, want api.Errno) {
	t.Helper()
	m, l, e := checkBegin(t, p, expert, from, to, text, size)
	if e != want || !sameMove(m, Move{}) || len(l) != 0 {
		t.Errorf("Begin(%s, %d, %d, %d, %.80q, %d): %s, %q, %d, not %d", shownMap(p), expert, from, to, text, size, shown(m), l, e, want)
	}
}

// P22.1: each way to be refused, alone, and with to holding the expert as well,
// which is told behind all others.
func TestBeginRefused(t *testing.T) {
	p := place.Map{Epoch: 7, Holders: [][]int{{1}, {2, 3}, {1, 3, 4}}}
	for _, node := range wrongNodes() {
		wantRefused(t, p, 0, 1, node, "abc", 2, 1)
		wantRefused(t, p, 1, node, 1, "abc", 2, 1)
		wantRefused(t, p, 1, node, 2, "abc", 2, 1)
		wantRefused(t, p, 1, node, node, "abc", 2, 1)
	}
	for _, from := range []int{2, 3, 4} {
		wantRefused(t, p, 0, from, 3, "abc", 2, 1)
		wantRefused(t, p, 0, from, from, "abc", 2, 1)
		wantRefused(t, p, 0, from, 1, "abc", 2, 1)
	}
	for _, expert := range without(0, 2) {
		for node := 1; node <= 4; node++ {
			wantRefused(t, p, expert, node, 5-node, "abc", 2, 1)
			wantRefused(t, p, expert, node, node, "abc", 2, 1)
		}
	}
	for _, size := range wrongSizes() {
		wantRefused(t, p, 0, 1, 2, "abc", size, 1)
		wantRefused(t, p, 0, 1, 1, "abc", size, 1)
		wantRefused(t, p, 2, 3, 4, "abc", size, 1)
		wantRefused(t, p, 2, 3, 4, "", size, 1)
	}
	for size := 1; size <= 64; size++ {
		wantRefused(t, p, 0, 1, 2, "", size, 1)
		wantRefused(t, p, 0, 1, 1, "", size, 1)
		wantRefused(t, p, 2, 3, 4, "", size, 1)
		wantRefused(t, p, 2, 3, 4, "a", size, 5)
	}
}

// P22.1: a map that is not right, in each of layer 17's ways, also where its
// expert would be held by to.
func TestBeginWrongMaps(t *testing.T) {
	for _, p := range wrongMaps() {
		if place.Right(p) {
			t.Fatalf("the test's own: %s", shownMap(p))
		}
		for expert := -1; expert <= min(len(p.Holders), 9); expert++ {
			for from := range 6 {
				for to := range 6 {
					if _, _, e := Begin(p, expert, from, to, "abc", 2); e != 1 {
						t.Errorf("Begin(%s, %d, %d, %d): %d", shownMap(p), expert, from, to, e)
					}
				}
			}
			wantRefused(t, p, expert, 1, 2, "abc", 2, 1)
			wantRefused(t, p, expert, 1, 1, "abc", 2, 1)
		}
	}
}

// P22.1: to is one of the holders, from itself among them.
func TestBeginThere(t *testing.T) {
	for _, nodes := range rightLists() {
		for _, epoch := range rightEpochs() {
			p := place.Map{Epoch: epoch, Holders: [][]int{{4}, nodes}}
			for _, from := range nodes {
				for to := 1; to <= 4; to++ {
					if in(to, nodes...) {
						wantRefused(t, p, 1, from, to, "abc", 2, 5)
						continue
					}
					if _, _, e := checkBegin(t, p, 1, from, to, "abc", 2); e != 0 {
						t.Errorf("Begin(%s, 1, %d, %d): %d", shownMap(p), from, to, e)
					}
				}
			}
		}
	}
}

// P22.1: each right map, with each expert and each two nodes, also beyond them.
func TestBeginRightMaps(t *testing.T) {
	begun := 0
	for _, p := range rightMaps() {
		for expert := -1; expert <= len(p.Holders); expert++ {
			for from := range 6 {
				for to := range 6 {
					if _, _, e := checkBegin(t, p, expert, from, to, "abcde", 2); e == 0 {
						begun++
					}
				}
			}
		}
	}
	if begun < 1000 {
		t.Errorf("%d moves", begun)
	}
}

// P22.1: texts of each length, by each size.
func TestBeginPieces(t *testing.T) {
	draw := mixed(22)
	for long := range 140 {
		text := draw.bytes(long)
		for size := -1; size <= 66; size++ {
			m, l, e := checkBegin(t, two(), 0, 1, 2, text, size)
			right := long > 0 && size >= 1 && size <= 64
			if right != (e == 0) || !right && e != 1 {
				t.Fatalf("of %d by %d: %d", long, size, e)
			}
			if right && (len(l) != (long+size-1)/size || len(m.Has) != len(l) || strings.Join(l, "") != text) {
				t.Fatalf("of %d by %d: %s, %q", long, size, shown(m), l)
			}
		}
	}
}

// P22.2: what is refused is answered as it was: of each phase, at each place.
func TestPieceRefused(t *testing.T) {
	for _, phase := range phases() {
		for _, has := range [][]bool{nil, {false}, {true}, {false, false}, {true, false}, {false, true}, {true, true}} {
			m := Move{Expert: 1, From: 2, To: 3, Phase: phase, Sum: wantSum("ab"), Has: has, Got: slices.Repeat([]string{"b"}, len(has))}
			for _, i := range extremes() {
				n, e := checkPiece(t, m, i, "a")
				if phase != 1 && (e != 1 || !sameMove(n, m)) {
					t.Errorf("Piece(%s, %d): %s, %d", shown(m), i, shown(n), e)
				}
				if (i < 0 || i >= len(has)) && (e != 1 || !sameMove(n, m)) {
					t.Errorf("Piece(%s, %d): %s, %d", shown(m), i, shown(n), e)
				}
			}
		}
	}
}

// P22.2: Has and Got are not equally many, at each place that either has.
func TestPieceUnlike(t *testing.T) {
	for has := range 6 {
		for got := range 6 {
			for _, there := range []bool{false, true} {
				m := Move{Phase: 1, Has: slices.Repeat([]bool{there}, has), Got: slices.Repeat([]string{"a"}, got)}
				for i := -1; i <= 6; i++ {
					n, e := checkPiece(t, m, i, "a")
					want := api.Errno(1)
					if has == got && i >= 0 && i < has {
						want = 0
						if there {
							want = 5
						} else if has == 1 {
							want = 9
						}
					}
					if e != want || want == 1 && !sameMove(n, m) {
						t.Errorf("Piece(%s, %d): %s, %d, not %d", shown(m), i, shown(n), e, want)
					}
				}
			}
		}
	}
}

// P22.2: a piece that is there stays, whatever comes for its place, also where it
// is of no bytes.
func TestPieceThere(t *testing.T) {
	m, l := begun(t, "abcdefg", 2)
	m, _ = checkPiece(t, m, 1, "")
	m, _ = checkPiece(t, m, 3, "g")
	for _, s := range append(l, "", "x", "abcdefg") {
		for _, i := range []int{1, 3} {
			if n, e := checkPiece(t, m, i, s); e != 5 || !sameMove(n, m) {
				t.Errorf("%q at %d: %s, %d", s, i, shown(n), e)
			}
		}
	}
	if !slices.Equal(m.Got, []string{"", "", "", "g"}) || !slices.Equal(m.Has, []bool{false, true, false, true}) || m.Phase != 1 {
		t.Errorf("%s", shown(m))
	}
}

// P22.2: the last one that was missing, at each place, with the right sum and
// with a wrong one.
func TestPieceLast(t *testing.T) {
	text := "the quick brown fox"
	for size := 1; size <= 20; size++ {
		m, l := begun(t, text, size)
		for last := range l {
			n := m
			for i, s := range l {
				if i != last {
					n, _ = checkPiece(t, n, i, s)
				}
			}
			for _, s := range []string{l[last], "", "x", l[last] + "x", l[last][1:], strings.ToUpper(l[last]), text} {
				o, e := checkPiece(t, n, last, s)
				if s == l[last] {
					whole, ok := checkText(t, o)
					if e != 0 || o.Phase != 2 || whole != text || !ok {
						t.Errorf("by %d, %q at %d: %s, %d", size, s, last, shown(o), e)
					}
					continue
				}
				if strings.Join(o.Got, "") == text {
					continue
				}
				whole, ok := checkText(t, o)
				if e != 9 || o.Phase != 4 || o.Got[last] != s || slices.Contains(o.Has, false) || whole != "" || ok {
					t.Errorf("by %d, %q at %d: %s, %d", size, s, last, shown(o), e)
				}
			}
			for _, sum := range append(extremes(), n.Sum+1, n.Sum-1, n.Sum+1<<32, n.Sum-1<<32, -n.Sum, n.Sum^1<<31) {
				k := n
				k.Sum = sum
				if o, e := checkPiece(t, k, last, l[last]); sum != n.Sum && (e != 9 || o.Phase != 4 || o.Sum != sum) {
					t.Errorf("by %d, the sum %d: %s, %d", size, sum, shown(o), e)
				}
			}
		}
	}
}

// P22.2: it is the sum of all, joined, and not how long a piece is, that counts.
func TestPieceOtherwiseCut(t *testing.T) {
	for _, c := range []struct {
		pieces []string
		phase  int
		e      api.Errno
	}{
		{[]string{"ab", "cd", "e"}, 2, 0}, {[]string{"abcde", "", ""}, 2, 0}, {[]string{"", "", "abcde"}, 2, 0}, {[]string{"a", "bcd", "e"}, 2, 0}, {[]string{"", "abcd", "e"}, 2, 0},
		{[]string{"", "", ""}, 4, 9}, {[]string{"ab", "cd", ""}, 4, 9}, {[]string{"ab", "cd", "ee"}, 4, 9}, {[]string{"cd", "ab", "e"}, 4, 9}, {[]string{"ab", "cd", "f"}, 4, 9},
		{[]string{"ab", "cd", strings.Repeat("e", 1000)}, 4, 9}, {[]string{"\x00ab", "cd", "e"}, 4, 9}, {[]string{"ab", "cd", "e\x00"}, 4, 9},
	} {
		for _, order := range [][]int{{0, 1, 2}, {0, 2, 1}, {1, 0, 2}, {1, 2, 0}, {2, 0, 1}, {2, 1, 0}} {
			m, _ := begun(t, "abcde", 2)
			for many, i := range order {
				n, e := checkPiece(t, m, i, c.pieces[i])
				if many < 2 && (e != 0 || n.Phase != 1) || many == 2 && (e != c.e || n.Phase != c.phase) {
					t.Errorf("%.80q, %d: %s, %d", c.pieces, order, shown(n), e)
				}
				m = n
			}
			if !slices.Equal(m.Got, c.pieces) {
				t.Errorf("%.80q, %d: %s", c.pieces, order, shown(m))
			}
		}
	}
}

// P22.2: what Got tells of a place that Has tells nothing of is laid over, and is
// no piece that is there.
func TestPieceLaidOver(t *testing.T) {
	m := Move{Phase: 1, Sum: wantSum("ab"), Has: []bool{true, false}, Got: []string{"a", "zzz"}}
	if n, e := checkPiece(t, m, 1, "b"); e != 0 || n.Phase != 2 || !slices.Equal(n.Got, []string{"a", "b"}) {
		t.Errorf("%s, %d", shown(n), e)
	}
	m = Move{Phase: 1, Sum: wantSum("ab"), Has: []bool{false, false}, Got: []string{"a", "b"}}
	if n, e := checkPiece(t, m, 1, "b"); e != 0 || n.Phase != 1 {
		t.Errorf("%s, %d", shown(n), e)
	}
}

// P22.2: a move of no pieces has no place, whatever its Sum.
func TestNoPieces(t *testing.T) {
	for _, m := range []Move{{Phase: 1}, {Phase: 1, Sum: wantSum("a"), Has: []bool{}, Got: []string{}}} {
		for _, i := range extremes() {
			if n, e := checkPiece(t, m, i, ""); e != 1 || n.Phase != 1 {
				t.Errorf("Piece(%s, %d): %s, %d", shown(m), i, shown(n), e)
			}
		}
		m.Phase = 2
		if s, ok := checkText(t, m); s != "" || !ok {
			t.Errorf("Text(%s): %q, %v", shown(m), s, ok)
		}
	}
}

// P22.2: Text, of each phase; a move that nobody began among them.
func TestText(t *testing.T) {
	for _, phase := range phases() {
		for _, c := range []struct {
			has  []bool
			got  []string
			want string
		}{
			{nil, nil, ""}, {[]bool{true}, []string{"a"}, "a"}, {[]bool{true, true}, []string{"ab", "c"}, "abc"}, {[]bool{true, true, true}, []string{"", "x", ""}, "x"},
			{[]bool{false, true}, []string{"ab", "c"}, "abc"}, {nil, []string{"ab", "c"}, "abc"}, {[]bool{true, true}, nil, ""},
		} {
			s, ok := checkText(t, Move{Phase: phase, Sum: 5, Has: c.has, Got: c.got})
			if in(phase, 2, 3) && (s != c.want || !ok) || !in(phase, 2, 3) && (s != "" || ok) {
				t.Errorf("%d, %q: %q, %v", phase, c.got, s, ok)
			}
		}
	}
}

// copiedOne is a move of "ab", of which all is there.
func copiedOne(expert, to int) Move {
	return Move{Expert: expert, From: 1, To: to, Phase: 2, Sum: wantSum("ab"), Has: []bool{true, true}, Got: []string{"a", "b"}}
}

// P22.3: Commit, of each phase.
func TestCommitPhases(t *testing.T) {
	for _, phase := range phases() {
		for _, p := range []place.Map{two(), {}, {Epoch: -1}, {Epoch: top, Holders: [][]int{{1}}}, {Holders: [][]int{{1, 2}}}} {
			m := copiedOne(0, 2)
			m.Phase = phase
			n, q, e := checkCommit(t, m, p)
			if phase != 2 && (e != 1 || !sameMove(n, m) || !sameMap(q, p)) {
				t.Errorf("Commit(%s, %s): %s, %s, %d", shown(m), shownMap(p), shown(n), shownMap(q), e)
			}
		}
	}
	n, q, e := checkCommit(t, copiedOne(1, 4), two())
	if e != 0 || n.Phase != 3 || !sameMap(q, place.Map{Epoch: 8, Holders: [][]int{{1}, {2, 3, 4}}}) {
		t.Errorf("%s, %s, %d", shown(n), shownMap(q), e)
	}
	if s, ok := checkText(t, n); s != "ab" || !ok {
		t.Errorf("Text: %q, %v", s, ok)
	}
	if m, r, e := checkCommit(t, n, q); e != 1 || !sameMove(m, n) || !sameMap(r, q) {
		t.Errorf("again: %s, %s, %d", shown(m), shownMap(r), e)
	}
}

// P22.3: each of Add's errors, with the map and the move as they were; and its
// node is To, whether or not From holds the expert still.
func TestCommitErrors(t *testing.T) {
	for _, c := range []struct {
		expert, to int
		p          place.Map
		e          api.Errno
	}{
		{0, 2, two(), 0}, {0, 4, two(), 0}, {1, 1, two(), 0}, {1, 4, two(), 0}, {0, 1, two(), 5}, {1, 2, two(), 5}, {1, 3, two(), 5},
		{0, 0, two(), 1}, {0, 5, two(), 1}, {0, -1, two(), 1}, {0, math.MinInt, two(), 1}, {0, math.MaxInt, two(), 1}, {0, 1<<32 + 2, two(), 1},
		{-1, 2, two(), 1}, {2, 2, two(), 1}, {math.MinInt, 2, two(), 1}, {math.MaxInt, 2, two(), 1}, {0, 2, place.Map{}, 1},
		{0, 2, place.Map{Epoch: top, Holders: [][]int{{1}}}, 1}, {0, 1, place.Map{Epoch: top, Holders: [][]int{{1}}}, 1}, {0, 2, place.Map{Epoch: top - 1, Holders: [][]int{{1}}}, 0},
		{0, 2, place.Map{Holders: [][]int{{1}, nil}}, 1}, {0, 1, place.Map{Holders: [][]int{{1}, {2, 2}}}, 1},
		// Not at From, which is 1, any more.
		{0, 2, place.Map{Holders: [][]int{{3}}}, 0}, {0, 1, place.Map{Holders: [][]int{{3}}}, 0}, {0, 2, place.Map{Holders: [][]int{{2}}}, 5},
	} {
		m := copiedOne(c.expert, c.to)
		n, q, e := checkCommit(t, m, c.p)
		if e != c.e {
			t.Errorf("Commit(%s, %s): %d, not %d", shown(m), shownMap(c.p), e, c.e)
		}
		if e != 0 && (!sameMove(n, m) || !sameMap(q, c.p)) {
			t.Errorf("Commit(%s, %s): %s, %s", shown(m), shownMap(c.p), shown(n), shownMap(q))
		}
		if e == 0 && (n.Phase != 3 || q.Epoch != c.p.Epoch+1 || !place.Holds(q, c.expert, c.to) || !place.Right(q)) {
			t.Errorf("Commit(%s, %s): %s, %s", shown(m), shownMap(c.p), shown(n), shownMap(q))
		}
	}
}

// P22.3: each map, right and not, with each expert and node.
func TestCommitMaps(t *testing.T) {
	for _, p := range append(rightMaps(), wrongMaps()...) {
		for expert := -1; expert <= min(len(p.Holders), 9); expert++ {
			for to := range 6 {
				m := copiedOne(expert, to)
				checkCommit(t, m, p)
				m.Phase = 1
				checkCommit(t, m, p)
			}
		}
	}
}

// P22.3: Abort, of each phase: again and again, but of what is committed.
func TestAbort(t *testing.T) {
	for _, phase := range phases() {
		for _, m := range []Move{copiedOne(0, 2), {}, {Expert: -5, From: 9, To: -9, Sum: -1, Has: []bool{false}, Got: []string{"a", "b"}}} {
			m.Phase = phase
			n, e := checkAbort(t, m)
			if phase == 3 && (e != 7 || !sameMove(n, m)) {
				t.Errorf("Abort(%s): %s, %d", shown(m), shown(n), e)
			}
			want := m
			want.Phase = 4
			if phase != 3 && (e != 0 || !sameMove(n, want)) {
				t.Errorf("Abort(%s): %s, %d", shown(m), shown(n), e)
			}
			if o, e := checkAbort(t, n); phase != 3 && (e != 0 || !sameMove(o, n)) {
				t.Errorf("Abort(%s): %s, %d", shown(n), shown(o), e)
			}
		}
	}
}

// P22.2, P22.3: all moves of up to three pieces, each there or not, of each
// phase, with the right sum and a wrong one, at each place.
func TestAllSmall(t *testing.T) {
	for many := range 4 {
		for set := range 1 << many {
			for _, text := range []string{"aaa", "ab", "xyz"} {
				m := Move{Expert: set % 3, From: 1, To: many + 1, Sum: wantSum(text), Has: make([]bool, many), Got: make([]string, many)}
				for i := range many {
					if m.Has[i] = set>>i&1 == 1; m.Has[i] {
						m.Got[i] = "a"
					}
				}
				for phase := -1; phase <= 5; phase++ {
					m.Phase = phase
					for i := -1; i <= many; i++ {
						for _, s := range []string{"", "a", "b", "aa"} {
							checkAll(t, m, i, s, two())
						}
					}
				}
			}
		}
	}
}

// send hands all pieces in, in an order that is drawn, some of them again, and
// wants the move to be copied, or aborted, with the last one that was missing, and
// no sooner.
func send(t *testing.T, draw *mixed, m Move, l []string, phase int, e api.Errno) Move {
	t.Helper()
	order := draw.order(len(l))
	for many, i := range order {
		for range draw.next(3) {
			again := order[draw.next(many+1)]
			if again == i {
				continue
			}
			if n, e := checkPiece(t, m, again, l[again]); e != 5 || !sameMove(n, m) {
				t.Fatalf("again at %d: %s, %d", again, shown(n), e)
			}
		}
		if s, ok := checkText(t, m); ok || s != "" || m.Phase != 1 {
			t.Fatalf("with %d of %d: %s", many, len(l), shown(m))
		}
		n, got := checkPiece(t, m, i, l[i])
		if many < len(l)-1 && (got != 0 || n.Phase != 1) || many == len(l)-1 && (got != e || n.Phase != phase) {
			t.Fatalf("the %d of %d, at %d: %s, %d", many+1, len(l), i, shown(n), got)
		}
		m = n
	}
	return m
}

// P22.4: right pieces, in any order, each as often as you like, make a move
// copied; it is committed, and then no more is done to it.
func TestRightPieces(t *testing.T) {
	draw := mixed(224)
	for range 1500 {
		text, size := draw.bytes(1+draw.next(150)), 1+draw.next(64)
		m, l := begun(t, text, size)
		m = send(t, &draw, m, l, 2, 0)
		if s, ok := checkText(t, m); s != text || !ok {
			t.Fatalf("%q by %d: %q, %v", text, size, s, ok)
		}
		for i, s := range l {
			if n, e := checkPiece(t, m, i, s); e != 1 || !sameMove(n, m) {
				t.Fatalf("behind the last one: %s, %d", shown(n), e)
			}
		}
		n, q, e := checkCommit(t, m, two())
		if e != 0 || n.Phase != 3 || !sameMap(q, place.Map{Epoch: 8, Holders: [][]int{{1, 2}, {2, 3}}}) {
			t.Fatalf("Commit: %s, %s, %d", shown(n), shownMap(q), e)
		}
		if o, e := checkAbort(t, n); e != 7 || !sameMove(o, n) {
			t.Fatalf("Abort: %s, %d", shown(o), e)
		}
		if s, ok := checkText(t, n); s != text || !ok {
			t.Fatalf("%q by %d: %q, %v", text, size, s, ok)
		}
	}
}

// checkAborted wants what is aborted to stay so, and to turn no map.
func checkAborted(t *testing.T, m Move, l []string) {
	t.Helper()
	if m.Phase != 4 {
		t.Fatalf("not aborted: %s", shown(m))
	}
	for i, s := range l {
		if n, e := checkPiece(t, m, i, s); e != 1 || !sameMove(n, m) {
			t.Fatalf("Piece: %s, %d", shown(n), e)
		}
	}
	if n, q, e := checkCommit(t, m, two()); e != 1 || !sameMove(n, m) || !sameMap(q, two()) {
		t.Fatalf("Commit: %s, %s, %d", shown(n), shownMap(q), e)
	}
	if n, e := checkAbort(t, m); e != 0 || !sameMove(n, m) {
		t.Fatalf("Abort: %s, %d", shown(n), e)
	}
	if s, ok := checkText(t, m); s != "" || ok {
		t.Fatalf("Text: %q, %v", s, ok)
	}
}

// P22.4: one piece with a bit turned aborts it, with the last one that was
// missing.
func TestOneBitTurned(t *testing.T) {
	draw := mixed(225)
	for range 1500 {
		text, size := draw.bytes(1+draw.next(150)), 1+draw.next(64)
		m, l := begun(t, text, size)
		spoiled := slices.Clone(l)
		at := draw.next(len(l))
		b := []byte(l[at])
		b[draw.next(len(b))] ^= 1 << draw.next(8)
		spoiled[at] = string(b)
		m = send(t, &draw, m, spoiled, 4, 9)
		if !slices.Equal(m.Got, spoiled) || slices.Contains(m.Has, false) {
			t.Fatalf("%q by %d: %s", text, size, shown(m))
		}
		checkAborted(t, m, l)
	}
	// Each bit of a short one.
	text := "switchboard"
	for bit := range 8 * len(text) {
		m, l := begun(t, text, 3)
		b := []byte(text)
		b[bit/8] ^= 1 << (bit % 8)
		for i := range l {
			n, e := checkPiece(t, m, i, wantPieces(string(b), 3)[i])
			if m = n; i == len(l)-1 && e != 9 {
				t.Fatalf("the bit %d: %d", bit, e)
			}
		}
		checkAborted(t, m, l)
	}
}

// P22.4: what is aborted, after however many pieces, turns no map.
func TestAbortedAtAnyTime(t *testing.T) {
	for size := 1; size <= 10; size++ {
		m, l := begun(t, "0123456789", size)
		for i := range len(l) + 1 {
			aborted, e := checkAbort(t, m)
			if e != 0 || !slices.Equal(aborted.Has, m.Has) || !slices.Equal(aborted.Got, m.Got) {
				t.Fatalf("Abort(%s): %s, %d", shown(m), shown(aborted), e)
			}
			checkAborted(t, aborted, l)
			if i < len(l) {
				m, _ = checkPiece(t, m, i, l[i])
			}
		}
	}
}

// P22.4: an expert, exported, comes whole, and its new holder has a map's epoch
// of its own.
func TestAnExpert(t *testing.T) {
	draw := mixed(226)
	for range 200 {
		dim, inner := 1+draw.next(8), 1+draw.next(8)
		x := api.Expert{}
		for range inner {
			x.In = append(x.In, draw.row(dim))
		}
		for range dim {
			x.Out = append(x.Out, draw.row(inner))
		}
		text, e := chunk.Export(x, dim)
		if e != 0 {
			t.Fatalf("Export: %d", e)
		}
		m, l := begun(t, text, 1+draw.next(64))
		m = send(t, &draw, m, l, 2, 0)
		whole, _ := checkText(t, m)
		y, got, e := chunk.Import(whole)
		if e != 0 || got != dim || !slices.EqualFunc(x.In, y.In, slices.Equal[[]int]) || !slices.EqualFunc(x.Out, y.Out, slices.Equal[[]int]) {
			t.Fatalf("Import: %v, %d, %d, not %v", y, got, e, x)
		}
	}
}

func (m *mixed) row(long int) []int {
	all := make([]int, long)
	for i := range all {
		all[i] = m.next(1<<17) - 1<<16
	}
	return all
}

// number is one that is small more often than not.
func (m *mixed) number(small int) int {
	if m.next(8) == 0 {
		return extremes()[m.next(len(extremes()))]
	}
	return m.next(small)
}

// drawnMap is a map that is right more often than not.
func (m *mixed) drawnMap() place.Map {
	p := place.Map{Epoch: m.next(20)}
	if m.next(8) == 0 {
		p.Epoch = extremes()[m.next(len(extremes()))]
	}
	spoiled := m.next(5) == 0
	for range m.next(9 + m.next(2)) {
		nodes := rightLists()[m.next(15)]
		if spoiled && m.next(4) == 0 {
			nodes = wrongLists()[m.next(len(wrongLists()))]
		}
		p.Holders = append(p.Holders, nodes)
	}
	return p
}

// drawnMove is one of few pieces, that nobody began; its Sum is that of all as
// often as not.
func (m *mixed) drawnMove() Move {
	n := Move{Expert: m.number(9), From: m.number(6), To: m.number(6), Phase: m.number(5)}
	if m.next(2) == 0 {
		n.Phase = 1 + m.next(2)
	}
	many := m.next(6)
	for range many {
		n.Has = append(n.Has, m.next(3) > 0)
		n.Got = append(n.Got, []string{"", "a", "ab", "b"}[m.next(4)])
	}
	switch m.next(10) {
	case 0:
		n.Has = append(n.Has, true)
	case 1:
		n.Got = append(n.Got, "a")
	case 2:
		n.Has = nil
	}
	n.Sum = wantSum(strings.Join(n.Got, ""))
	if m.next(3) == 0 {
		n.Sum = m.number(100)
	}
	return n
}

// P22.1 to P22.3: drawn moves, pieces and maps, right and not, against the
// chapter's words.
func TestDrawn(t *testing.T) {
	draw := mixed(2222)
	told := map[string]int{}
	for range 60000 {
		p := draw.drawnMap()
		_, _, e := checkBegin(t, p, draw.number(9), draw.number(6), draw.number(6), draw.bytes(draw.next(20)), draw.number(70))
		told[fmt.Sprint("Begin ", e)]++
		m := draw.drawnMove()
		i, s := draw.number(6), []string{"", "a", "ab", "b"}[draw.next(4)]
		if missing := slices.Index(m.Has, false); missing >= 0 && draw.next(2) == 0 {
			i = missing
		}
		if i >= 0 && i < len(m.Got) && draw.next(2) == 0 {
			s = m.Got[i]
		}
		_, e = checkPiece(t, m, i, s)
		told[fmt.Sprint("Piece ", e)]++
		_, _, e = checkCommit(t, m, p)
		told[fmt.Sprint("Commit ", e)]++
		_, e = checkAbort(t, m)
		told[fmt.Sprint("Abort ", e)]++
		checkText(t, m)
	}
	for _, what := range []string{"Begin 0", "Begin 1", "Begin 5", "Piece 0", "Piece 1", "Piece 5", "Piece 9", "Commit 0", "Commit 1", "Commit 5", "Abort 0", "Abort 7"} {
		if told[what] < 500 {
			t.Errorf("%s: %d", what, told[what])
		}
	}
}

// spoil and spoilMap write into all memory that a move, or a map, can reach.
func spoil(m Move) {
	for i := range m.Has[:cap(m.Has)] {
		m.Has[:cap(m.Has)][i] = i%2 == 0
	}
	for i := range m.Got[:cap(m.Got)] {
		m.Got[:cap(m.Got)][i] = "spoiled"
	}
}

func spoilMap(p place.Map) {
	for _, nodes := range p.Holders {
		for i := range nodes[:cap(nodes)] {
			nodes[:cap(nodes)][i] = -7
		}
	}
	for i := range p.Holders[:cap(p.Holders)] {
		p.Holders[:cap(p.Holders)][i] = []int{-8}
	}
}

// roomy is a move that is alike, with room behind its lists that is not nought.
func roomy(m Move) Move {
	m.Has = append(slices.Clone(m.Has), true, false, true, true)[:len(m.Has)]
	m.Got = append(slices.Clone(m.Got), "p", "q", "r", "s")[:len(m.Got)]
	return m
}

func roomyMap(p place.Map) place.Map {
	q := place.Map{Epoch: p.Epoch}
	for _, nodes := range p.Holders {
		q.Holders = append(q.Holders, append(slices.Clone(nodes), 1, 2, 3, 4)[:len(nodes)])
	}
	q.Holders = append(q.Holders, []int{1}, []int{2, 3})[:len(p.Holders)]
	return q
}

// whole is all memory of a move, and of a map, up to its end.
func whole(m Move) Move {
	m.Has, m.Got = m.Has[:cap(m.Has)], m.Got[:cap(m.Got)]
	return m
}

func wholeMap(p place.Map) place.Map {
	q := place.Map{Epoch: p.Epoch}
	for i, nodes := range p.Holders[:cap(p.Holders)] {
		if i < len(p.Holders) {
			nodes = nodes[:cap(nodes)]
		}
		q.Holders = append(q.Holders, nodes)
	}
	return q
}

// R1, R4: what is handed in stays as it is, up to the end of its memory, which
// counts not; what is answered shares none of it.
func TestMemory(t *testing.T) {
	draw := mixed(2201)
	for range 4000 {
		m, p := roomy(draw.drawnMove()), roomyMap(draw.drawnMap())
		was, old := apart(whole(m)), apartMap(wholeMap(p))
		i, s := draw.number(6), "a"
		n, _ := checkPiece(t, m, i, s)
		o, q, _ := checkCommit(t, m, p)
		k, _ := checkAbort(t, m)
		b, l, _ := checkBegin(t, p, draw.next(4), 1+draw.next(4), 1+draw.next(4), "abcde", 2)
		if !sameMove(whole(m), was) || !sameMap(wholeMap(p), old) {
			t.Fatalf("%s, %s: the memory is changed", shown(m), shownMap(p))
		}
		n1, o1, q1, k1, b1, l1 := apart(n), apart(o), apartMap(q), apart(k), apart(b), slices.Clone(l)
		spoil(m)
		spoilMap(p)
		if !sameMove(n, n1) || !sameMove(o, o1) || !sameMap(q, q1) || !sameMove(k, k1) || !sameMove(b, b1) || !slices.Equal(l, l1) {
			t.Fatalf("%s, %s: an answer changes with what was handed in", shown(was), shownMap(old))
		}
		was, old = apart(whole(m)), apartMap(wholeMap(p))
		spoil(n)
		spoil(o)
		spoil(k)
		spoil(b)
		spoilMap(q)
		for i := range l {
			l[i] = "none"
		}
		if !sameMove(whole(m), was) || !sameMap(wholeMap(p), old) {
			t.Fatalf("%s, %s: what was handed in changes with an answer", shown(was), shownMap(old))
		}
	}
}

// R1: the pieces, Has and Got of one move are lists of their own.
func TestListsOfOneAnswer(t *testing.T) {
	m, l := begun(t, "abcdef", 2)
	spoil(m)
	if !slices.Equal(l, []string{"ab", "cd", "ef"}) {
		t.Errorf("the pieces: %q", l)
	}
	m, l = begun(t, "abcdef", 2)
	for i := range l {
		l[i] = "none"
	}
	if !slices.Equal(m.Got, []string{"", "", ""}) {
		t.Errorf("Got: %q", m.Got)
	}
}

// R3, R4: a move that was answered before is as it was when a later call is made
// with it, or with one that was made of it.
func TestEarlierOnes(t *testing.T) {
	draw := mixed(2203)
	for range 300 {
		m, l := begun(t, draw.bytes(1+draw.next(40)), 1+draw.next(8))
		moves, were := []Move{m}, []Move{apart(m)}
		maps, wereMaps := []place.Map{two()}, []place.Map{two()}
		for range 60 {
			m, p := moves[draw.next(len(moves))], maps[draw.next(len(maps))]
			i := draw.next(len(l))
			switch draw.next(8) {
			case 0:
				m, _ = checkAbort(t, m)
			case 1:
				m, p, _ = checkCommit(t, m, p)
			case 2:
				checkText(t, m)
			case 3:
				m, _ = checkPiece(t, m, i, "spoiled")
			default:
				m, _ = checkPiece(t, m, i, l[i])
			}
			moves, were = append(moves, m), append(were, apart(m))
			maps, wereMaps = append(maps, p), append(wereMaps, apartMap(p))
			for k := range moves {
				if !sameMove(moves[k], were[k]) || !sameMap(maps[k], wereMaps[k]) {
					t.Fatalf("%s, %s: now %s, %s", shown(were[k]), shownMap(wereMaps[k]), shown(moves[k]), shownMap(maps[k]))
				}
			}
		}
	}
}

// P22.4: two pieces of one move, handed in to the same one, make two moves.
func TestTwoWays(t *testing.T) {
	m, _ := begun(t, "ab", 1)
	left, _ := checkPiece(t, m, 0, "a")
	right, _ := checkPiece(t, m, 1, "b")
	wrong, _ := checkPiece(t, left, 1, "c")
	both, _ := checkPiece(t, left, 1, "b")
	other, _ := checkPiece(t, right, 0, "a")
	if left.Phase != 1 || right.Phase != 1 || wrong.Phase != 4 || both.Phase != 2 || other.Phase != 2 {
		t.Errorf("%s, %s, %s, %s, %s", shown(left), shown(right), shown(wrong), shown(both), shown(other))
	}
	if left.Has[1] || right.Has[0] || slices.Contains(m.Has, true) {
		t.Errorf("%s, %s, %s", shown(m), shown(left), shown(right))
	}
}

// P1: great texts, moves and maps have an answer as well.
func TestGreatOnes(t *testing.T) {
	text := strings.Repeat("switchboard", 100000)
	for _, size := range []int{1, 63, 64} {
		m, l, e := Begin(two(), 0, 1, 2, text, size)
		if e != 0 || len(l) != (len(text)+size-1)/size || len(m.Has) != len(l) || len(m.Got) != len(l) || m.Sum != wantSum(text) {
			t.Fatalf("by %d: %d, %d, %d", size, e, len(l), len(m.Has))
		}
		for i := range m.Has {
			m.Has[i], m.Got[i] = true, l[i]
		}
		last := len(l) - 1
		m.Has[last], m.Got[last] = false, ""
		n, e := Piece(m, last, l[last])
		if e != 0 || n.Phase != 2 {
			t.Errorf("by %d: %d, %d", size, e, n.Phase)
		}
		if s, ok := Text(n); s != text || !ok {
			t.Errorf("by %d: the text is %d bytes, %v", size, len(s), ok)
		}
		if n, e := Piece(m, last, text); e != 9 || n.Phase != 4 || n.Got[last] != text {
			t.Errorf("by %d: %d, %d", size, e, n.Phase)
		}
	}
	if _, _, e := Begin(two(), 0, 1, 2, text, 65); e != 1 {
		t.Errorf("by 65: %d", e)
	}
	for _, p := range []place.Map{{Holders: make([][]int, 100000)}, {Holders: slices.Repeat([][]int{{1}}, 100000)}, {Holders: [][]int{slices.Repeat([]int{1}, 1000000)}}} {
		checkCommit(t, copiedOne(0, 2), p)
		wantRefused(t, p, 0, 1, 2, "a", 1, 1)
		m := copiedOne(0, 2)
		m.Phase = 1
		checkCommit(t, m, p)
	}
}

// FuzzMove reads Holders from bytes, each a number with a sign, and -128 parts an
// expert's from the next one's; has tells by its bits which pieces are there, and
// got, by its commas, what they are.
func FuzzMove(f *testing.F) {
	f.Add(7, []byte{1, 128, 2, 3}, 0, 1, 2, "abc", 2, 1, 891568578, []byte{1, 0}, "ab,", 1, "c")
	f.Add(top, []byte{1}, 0, 1, 2, "a", 1, 2, 0, []byte{1}, "a", 0, "a")
	f.Add(-1, []byte{128, 5, 255}, 1, 3, 3, "", 64, 3, -1, []byte{}, "", -1, "")
	f.Add(0, []byte{1, 2, 3, 4}, 0, 4, 4, "\x00", 65, 4, 1<<32-1, []byte{1, 1, 0}, ",", 2, ",,")
	f.Add(3, []byte{1, 128, 1, 128, 1}, 2, 1, 4, "abcabcabc", 64, 1, 0, []byte{0, 1, 1}, ",b,c", 0, "a")
	f.Fuzz(func(t *testing.T, epoch int, data []byte, expert, from, to int, text string, size, phase, sum int, has []byte, got string, i int, s string) {
		if len(data)+len(text)+len(has)+len(got) > 500 {
			t.Skip()
		}
		p := place.Map{Epoch: epoch}
		for _, part := range bytes.Split(data, []byte{128}) {
			var nodes []int
			for _, b := range part {
				nodes = append(nodes, int(int8(b)))
			}
			p.Holders = append(p.Holders, nodes)
		}
		m := Move{Expert: expert, From: from, To: to, Phase: phase, Sum: sum, Got: strings.Split(got, ",")}
		for _, b := range has {
			m.Has = append(m.Has, b&1 == 1)
		}
		checkAll(t, m, i, s, p)
		n, l, e := checkBegin(t, p, expert, from, to, text, size)
		if e != api.OK {
			return
		}
		n = send(t, (*mixed)(new(uint64)), n, l, 2, 0)
		checkAll(t, n, i, s, p)
	})
}
