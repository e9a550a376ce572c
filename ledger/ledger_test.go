package ledger

import (
	"container/list"
	"fmt"
	"math"
	"slices"
	"testing"
)

// mixed gives numbers that are always the same ones for a seed.
type mixed uint64

func (m *mixed) next(below int) int {
	*m = *m*6364136223846793005 + 1442695040888963407
	return int(uint64(*m)>>33) % below
}

// order is the places from 0 to below many, in an order of its own for a seed.
func (m *mixed) order(many int) []int {
	l := make([]int, many)
	for i := range l {
		at := m.next(i + 1)
		l[i], l[at] = l[at], i
	}
	return l
}

// extremes are numbers of a key around which something could turn: no two of
// them are one, but some are if only their low bits count.
func extremes() []int {
	return []int{
		0, 1, -1, 2, -2, 15, 16, 31, 32, 64, 127, 128, 200, 255, 256, 257, 65535, 65536, 65537, -65536,
		math.MaxInt32 - 1, math.MaxInt32, math.MaxInt32 + 1, math.MinInt32 - 1, math.MinInt32, math.MinInt32 + 1,
		1 << 32, 1<<32 + 1, 1<<32 - 1, -1 << 32, 1 << 48, 1<<48 + 1, 1 << 62,
		math.MaxInt - 1, math.MaxInt, math.MinInt, math.MinInt + 1,
	}
}

// with is a key like k, but with n as its number at a place.
func with(k Key, place, n int) Key {
	*[]*int{&k.Batch, &k.Layer, &k.Token, &k.Rank}[place] = n
	return k
}

// keys are many, no two of them one: each extreme at each place, at all places,
// and small numbers at all places.
func keys() []Key {
	var all []Key
	for _, n := range extremes() {
		all = append(all, Key{n, n, n, n})
		for place := range 4 {
			all = append(all, with(Key{}, place, n), with(Key{7, 7, 7, 7}, place, n))
		}
	}
	for i := range 81 {
		all = append(all, Key{i % 3, i / 3 % 3, i / 9 % 3, i / 27})
	}
	seen := map[Key]bool{}
	return slices.DeleteFunc(all, func(k Key) bool {
		was := seen[k]
		seen[k] = true
		return was
	})
}

// rows are what may be worked out: no number (three ways), one, many, the least
// and the greatest ints.
func rows() [][]int {
	return [][]int{
		nil, {}, make([]int, 0, 8), {0}, {5}, {-1}, {0, 0}, {1, 2, 3}, {3, 2, 1}, {math.MinInt, math.MaxInt},
		{1, 2, 3, 4, 5, 6, 7, 8}, {-1, -2, -3, -4, -5, -6, -7, -8, -9}, make([]int, 1000),
	}
}

// entered has an entry for each key, no two rows of more than none alike.
func entered(all ...Key) []Entry {
	l := make([]Entry, len(all))
	for i, k := range all {
		l[i] = Entry{k, []int{i, -i, 100 + i}[:i%4]}
	}
	return l
}

// ledgers are of no entry, of one, of many, and with keys that are there more
// than once.
func ledgers() map[string][]Entry {
	a, b, c := Key{1, 2, 3, 4}, Key{}, Key{-1, math.MaxInt, math.MinInt, 0}
	some := keys()
	return map[string][]Entry{
		"nil":                 nil,
		"empty":               {},
		"empty, with room":    make([]Entry, 0, 8),
		"one, of nothing":     {{}},
		"one":                 {{a, []int{5}}},
		"one, of no number":   {{a, []int{}}},
		"one, below 0":        {{c, []int{5, 6}}},
		"two":                 {{a, []int{1}}, {b, []int{2, 2}}},
		"two, the other way":  {{b, []int{2, 2}}, {a, []int{1}}},
		"twice":               {{a, []int{1}}, {a, []int{2}}},
		"twice, first nil":    {{a, nil}, {a, []int{2}}},
		"twice, last nil":     {{a, []int{2}}, {a, nil}},
		"twice, alike":        {{a, []int{2}}, {a, []int{2}}},
		"twice, apart":        {{a, []int{1}}, {b, nil}, {c, []int{3}}, {a, []int{4}}},
		"twice, behind":       {{b, []int{1}}, {a, []int{2}}, {c, nil}, {a, []int{3}}},
		"thrice":              {{c, []int{1}}, {a, []int{2}}, {a, []int{1}}, {b, []int{0}}, {a, []int{3}}},
		"each twice":          {{a, []int{1}}, {b, []int{2}}, {c, []int{3}}, {c, []int{4}}, {b, []int{5}}, {a, []int{6}}},
		"many":                entered(some...),
		"many, each twice":    append(entered(some...), entered(append(some[1:len(some):len(some)], some[0])...)...),
		"many, and one again": append(entered(some...), Entry{some[9], []int{-9}}),
	}
}

func same(l, m []Entry) bool {
	return slices.EqualFunc(l, m, func(d, e Entry) bool { return d.Key == e.Key && slices.Equal(d.Vec, e.Vec) })
}

// apart is l in memory that the calls have never seen.
func apart(l []Entry) []Entry {
	var m []Entry
	for _, e := range l {
		m = append(m, Entry{e.Key, append([]int(nil), e.Vec...)})
	}
	return m
}

// shown keeps what a test says of a ledger short.
func shown(l []Entry) string {
	return fmt.Sprintf("%.200s (%d)", fmt.Sprint(l), len(l))
}

// wantFind and wantEnter are P12.1: the one comes from the end, so that what is
// first is told at last; the other moves entries one by one, in the library's
// list.
func wantFind(l []Entry, k Key) (row []int, ok bool) {
	for i := len(l) - 1; i >= 0; i-- {
		m := l[i].Key
		if m.Batch == k.Batch && m.Layer == k.Layer && m.Token == k.Token && m.Rank == k.Rank {
			row, ok = l[i].Vec, true
		}
	}
	return row, ok
}

func wantEnter(l []Entry, k Key, v []int) ([]Entry, bool) {
	all, there := list.New(), false
	for _, e := range l {
		all.PushBack(e)
		there = there || e.Key == k
	}
	if !there {
		all.PushBack(Entry{k, v})
	}
	var m []Entry
	for e := all.Front(); e != nil; e = e.Next() {
		m = append(m, e.Value.(Entry))
	}
	return m, !there
}

// checkFind and checkEnter hold one call against the chapter, twice, and what was
// handed in against what it was.
func checkFind(t *testing.T, l []Entry, k Key) ([]int, bool) {
	t.Helper()
	was := apart(l)
	want, there := wantFind(was, k)
	for range 2 {
		if got, ok := Find(l, k); !slices.Equal(got, want) || ok != there {
			t.Fatalf("Find(%s, %v): %v, %t, not %v, %t", shown(was), k, got, ok, want, there)
		}
	}
	if !same(l, was) {
		t.Fatalf("Find(%s, %v): l is now %s", shown(was), k, shown(l))
	}
	return Find(l, k)
}

func checkEnter(t *testing.T, l []Entry, k Key, v []int) ([]Entry, bool) {
	t.Helper()
	was, row := apart(l), append([]int(nil), v...)
	want, fresh := wantEnter(was, k, row)
	for range 2 {
		if got, ok := Enter(l, k, v); !same(got, want) || ok != fresh {
			t.Fatalf("Enter(%s, %v, %v): %s, %t, not %s, %t", shown(was), k, row, shown(got), ok, shown(want), fresh)
		}
	}
	if !same(l, was) || !slices.Equal(v, row) {
		t.Fatalf("Enter(%s, %v, %v): they are now %s, %v", shown(was), k, row, shown(l), v)
	}
	return Enter(l, k, v)
}

// P12.1: the chapter's example.
func TestExample(t *testing.T) {
	k := Key{Batch: 1, Layer: 2, Token: 3, Rank: 1}
	l, ok := Enter(nil, k, []int{4, 5})
	if !ok || len(l) != 1 || l[0].Key != k || !slices.Equal(l[0].Vec, []int{4, 5}) {
		t.Fatalf("Enter: %v, %t", l, ok)
	}
	again, ok := Enter(l, k, []int{4, 5})
	if ok || !same(again, l) {
		t.Errorf("Enter again: %v, %t", again, ok)
	}
	if v, ok := Find(again, k); !ok || !slices.Equal(v, []int{4, 5}) {
		t.Errorf("Find: %v, %t", v, ok)
	}
}

// P12.1, Find: written out.
func TestFindWrittenOut(t *testing.T) {
	a, b, c, d := Key{1, 2, 3, 4}, Key{}, Key{-1, math.MaxInt, math.MinInt, 0}, Key{9, 9, 9, 9}
	four := []Entry{{a, []int{1}}, {b, nil}, {c, []int{3, 3, 3}}, {d, []int{4, 4}}}
	for _, c := range []struct {
		l    []Entry
		k    Key
		want []int
		ok   bool
	}{
		// Nothing is there, also not of a key of noughts.
		{nil, a, nil, false}, {[]Entry{}, a, nil, false}, {nil, b, nil, false}, {[]Entry{}, b, nil, false}, {make([]Entry, 0, 4), b, nil, false},
		// One is.
		{[]Entry{{a, []int{1, 2}}}, a, []int{1, 2}, true}, {[]Entry{{a, []int{1, 2}}}, b, nil, false}, {[]Entry{{b, []int{7}}}, b, []int{7}, true},
		{[]Entry{{}}, b, nil, true}, {[]Entry{{a, nil}}, a, nil, true}, {[]Entry{{a, []int{}}}, a, nil, true}, {[]Entry{{a, nil}}, b, nil, false},
		// The first, in between, the last, none.
		{four, a, []int{1}, true}, {four, b, nil, true}, {four, c, []int{3, 3, 3}, true}, {four, d, []int{4, 4}, true}, {four, Key{5, 5, 5, 5}, nil, false},
		// More than once: the first one's, also if that has no number.
		{[]Entry{{a, []int{1}}, {a, []int{2}}}, a, []int{1}, true}, {[]Entry{{a, nil}, {a, []int{2}}}, a, nil, true}, {[]Entry{{a, []int{}}, {a, []int{2}}}, a, nil, true},
		{[]Entry{{b, []int{1}}, {a, []int{2}}, {c, []int{3}}, {a, []int{4, 4}}, {a, nil}}, a, []int{2}, true},
		{[]Entry{{b, []int{9}}, {a, []int{1, 1, 1}}, {a, []int{2}}}, a, []int{1, 1, 1}, true},
	} {
		if v, ok := checkFind(t, c.l, c.k); ok != c.ok || !slices.Equal(v, c.want) {
			t.Errorf("Find(%v, %v): %v, %t, not %v, %t", c.l, c.k, v, ok, c.want, c.ok)
		}
	}
}

// P12.1, Find: each key in each ledger, there or not.
func TestFindInAll(t *testing.T) {
	for what, l := range ledgers() {
		for _, k := range append(keys(), Key{1, 2, 3, 4}, Key{12, 34, 56, 78}) {
			v, ok := checkFind(t, l, k)
			if at := slices.IndexFunc(l, func(e Entry) bool { return e.Key == k }); ok != (at >= 0) || ok && !slices.Equal(v, l[at].Vec) || !ok && len(v) > 0 {
				t.Errorf("%s: Find(%v): %v, %t", what, k, v, ok)
			}
		}
	}
}

// P12.1: a key that is unlike an entered one at one place alone, whatever stands
// there, is another one.
func TestUnlikeAtOnePlace(t *testing.T) {
	for place := range 4 {
		for _, n := range extremes() {
			k := with(Key{7, 8, 9, 10}, place, n)
			l := []Entry{{k, []int{1, 2}}}
			if v, ok := checkFind(t, l, k); !ok || !slices.Equal(v, []int{1, 2}) {
				t.Errorf("Find(%v): %v, %t", k, v, ok)
			}
			if m, ok := checkEnter(t, l, k, []int{3}); ok || !same(m, l) {
				t.Errorf("Enter(%v), again: %v, %t", k, m, ok)
			}
			for _, other := range extremes() {
				if other == n {
					continue
				}
				unlike := with(k, place, other)
				if v, ok := checkFind(t, l, unlike); ok || len(v) > 0 {
					t.Errorf("Find(%v, %v): %v, %t", l, unlike, v, ok)
				}
				m, ok := checkEnter(t, l, unlike, []int{3})
				if v, found := Find(m, unlike); !ok || !found || len(m) != 2 || !slices.Equal(v, []int{3}) {
					t.Errorf("Enter(%v, %v): %v, %t", l, unlike, m, ok)
				}
			}
		}
	}
}

// P12.1: the same numbers in another order are another key.
func TestNumbersInAnotherOrder(t *testing.T) {
	numbers := [4]int{1, 2, -3, math.MaxInt}
	var all []Key
	for i := range 256 {
		at := [4]int{i % 4, i / 4 % 4, i / 16 % 4, i / 64}
		if at[0] != at[1] && at[0] != at[2] && at[0] != at[3] && at[1] != at[2] && at[1] != at[3] && at[2] != at[3] {
			all = append(all, Key{numbers[at[0]], numbers[at[1]], numbers[at[2]], numbers[at[3]]})
		}
	}
	if len(all) != 24 {
		t.Fatalf("there are %d orders", len(all))
	}
	var l []Entry
	for i, k := range all {
		if v, ok := checkFind(t, l, k); ok || len(v) > 0 {
			t.Errorf("Find(%s, %v): %v", shown(l), k, v)
		}
		var ok bool
		if l, ok = checkEnter(t, l, k, []int{i}); !ok || len(l) != i+1 {
			t.Errorf("Enter(%v): %s, %t", k, shown(l), ok)
		}
	}
	for i, k := range all {
		if v, ok := checkFind(t, l, k); !ok || !slices.Equal(v, []int{i}) {
			t.Errorf("Find(%v): %v, %t, not %d", k, v, ok, i)
		}
	}
}

// P12.1, Find: whatever the row is, it is told, with true.
func TestFindOfEachRow(t *testing.T) {
	k, other := Key{1, 0, 0, 1}, Key{1, 0, 0, 0}
	for _, v := range rows() {
		for _, l := range [][]Entry{
			{{k, v}}, {{k, v}, {other, []int{8}}}, {{other, []int{8}}, {k, v}}, {{other, nil}, {k, v}, {k, []int{8}}},
		} {
			if got, ok := checkFind(t, l, k); !ok || !slices.Equal(got, v) {
				t.Errorf("Find(%s, %v): %v, %t", shown(l), k, got, ok)
			}
		}
		if got, ok := checkFind(t, []Entry{{k, v}}, other); ok || len(got) != 0 {
			t.Errorf("Find of another key: %v, %t", got, ok)
		}
	}
}

// P12.1, Enter: written out.
func TestEnterWrittenOut(t *testing.T) {
	a, b, c := Key{1, 2, 3, 4}, Key{}, Key{-1, math.MaxInt, math.MinInt, 0}
	two := []Entry{{a, []int{1}}, {b, nil}}
	three := append(slices.Clone(two), Entry{c, []int{3, 3}})
	for _, c := range []struct {
		l    []Entry
		k    Key
		v    []int
		want []Entry
		ok   bool
	}{
		// Into nothing.
		{nil, a, []int{1}, []Entry{{a, []int{1}}}, true}, {[]Entry{}, a, []int{1}, []Entry{{a, []int{1}}}, true},
		{nil, b, nil, []Entry{{}}, true}, {[]Entry{}, b, []int{}, []Entry{{}}, true}, {make([]Entry, 0, 4), c, []int{5}, []Entry{{c, []int{5}}}, true},
		// Behind the others.
		{[]Entry{{a, []int{1}}}, b, nil, two, true}, {two, c, []int{3, 3}, three, true}, {[]Entry{{c, nil}}, a, nil, []Entry{{c, nil}, {a, nil}}, true},
		{[]Entry{{a, []int{1}}}, b, []int{1}, []Entry{{a, []int{1}}, {b, []int{1}}}, true},
		// Of a key that is there: the first, in between, the last; of the same
		// row, another, and none.
		{three, a, []int{1}, three, false}, {three, a, []int{9}, three, false}, {three, a, nil, three, false},
		{three, b, nil, three, false}, {three, b, []int{9, 9}, three, false}, {three, c, []int{3, 3}, three, false}, {three, c, []int{}, three, false}, {three, c, []int{3}, three, false},
		{[]Entry{{}}, b, []int{4}, []Entry{{}}, false}, {[]Entry{{a, nil}}, a, []int{4}, []Entry{{a, nil}}, false},
		// More than once.
		{[]Entry{{a, []int{1}}, {a, []int{2}}}, a, []int{3}, []Entry{{a, []int{1}}, {a, []int{2}}}, false},
		{[]Entry{{a, []int{1}}, {a, []int{2}}}, a, []int{2}, []Entry{{a, []int{1}}, {a, []int{2}}}, false},
		{[]Entry{{a, []int{1}}, {a, []int{2}}}, b, []int{3}, []Entry{{a, []int{1}}, {a, []int{2}}, {b, []int{3}}}, true},
		{[]Entry{{a, nil}, {b, nil}, {a, nil}}, b, []int{3}, []Entry{{a, nil}, {b, nil}, {a, nil}}, false},
	} {
		if l, ok := checkEnter(t, c.l, c.k, c.v); ok != c.ok || !same(l, c.want) {
			t.Errorf("Enter(%v, %v, %v): %v, %t, not %v, %t", c.l, c.k, c.v, l, ok, c.want, c.ok)
		}
	}
}

// P12.1, Enter: of a key that is not there, in each ledger, with each row: one
// entry more, behind.
func TestEnterWhatIsNotThere(t *testing.T) {
	for what, l := range ledgers() {
		for _, k := range []Key{{12, 34, 56, 78}, {-5, -6, -7, -8}, {math.MinInt, math.MaxInt, 0, 3}, {4, 3, 2, 1}} {
			for _, v := range rows() {
				m, ok := checkEnter(t, l, k, v)
				if !ok || len(m) != len(l)+1 || !same(m[:len(l)], l) {
					t.Fatalf("%s: Enter(%v, %v): %s, %t", what, k, v, shown(m), ok)
				}
				if last := m[len(l)]; last.Key != k || !slices.Equal(last.Vec, v) {
					t.Fatalf("%s: Enter(%v, %v): the last is %v", what, k, v, last)
				}
				if got, found := checkFind(t, m, k); !found || !slices.Equal(got, v) {
					t.Fatalf("%s: Enter(%v, %v), Find: %v, %t", what, k, v, got, found)
				}
			}
		}
	}
}

// P12.1, Enter: of keys that are there, in each ledger, the first, the last and
// those in between: l, entry for entry.
func TestEnterWhatIsThere(t *testing.T) {
	for what, l := range ledgers() {
		for i, e := range l {
			if len(l) > 100 && i%29 > 0 && i < len(l)-1 {
				continue
			}
			for _, v := range [][]int{e.Vec, nil, {-9}, rows()[i%len(rows())], append(slices.Clone(e.Vec), 0)} {
				if m, ok := checkEnter(t, l, e.Key, v); ok || !same(m, l) {
					t.Fatalf("%s: Enter(%v, %v): %s, %t", what, e.Key, v, shown(m), ok)
				}
			}
		}
	}
}

// P12.2: the first one that is entered of a key stays, whatever comes behind it.
func TestTheFirstStays(t *testing.T) {
	all := keys()
	for seed := range 12 {
		m := mixed(seed)
		few := make([]Key, 0, 24)
		for _, at := range m.order(len(all))[:24] {
			few = append(few, all[at])
		}
		var l []Entry
		first := map[Key][]int{}
		var came []Key
		for round := range 6 {
			for _, at := range m.order(len(few)) {
				k := few[at]
				if m.next(6) == 0 && round < 3 {
					continue
				}
				v := []int{round, at, m.next(1000)}[:m.next(4)]
				if _, ok := first[k]; !ok {
					first[k], came = slices.Clone(v), append(came, k)
				}
				l, _ = checkEnter(t, l, k, v)
				checkAll(t, l, few, came, first)
			}
		}
		if len(l) != len(few) {
			t.Errorf("seed %d: %d entries", seed, len(l))
		}
	}
}

// checkAll: of each key that came, and in that order, l has just the first row.
func checkAll(t *testing.T, l []Entry, few, came []Key, first map[Key][]int) {
	t.Helper()
	if len(l) != len(came) {
		t.Fatalf("%s: of %d keys", shown(l), len(came))
	}
	for i, k := range came {
		if l[i].Key != k || !slices.Equal(l[i].Vec, first[k]) {
			t.Fatalf("%s: at %d there is not %v, %v", shown(l), i, k, first[k])
		}
	}
	for _, k := range few {
		want, there := first[k]
		if v, ok := Find(l, k); ok != there || !slices.Equal(v, want) {
			t.Fatalf("Find(%s, %v): %v, %t, not %v, %t", shown(l), k, v, ok, want, there)
		}
	}
}

// P12.1, P12.2: a long ledger, from its first entry to its last.
func TestLong(t *testing.T) {
	var l []Entry
	for i := range 1500 {
		var ok bool
		if l, ok = Enter(l, Key{i / 128, i / 32 % 4, i / 2 % 16, i % 2}, []int{i}); !ok || len(l) != i+1 {
			t.Fatalf("the entry %d: %t, %d", i, ok, len(l))
		}
	}
	for i := range 1500 {
		k := Key{i / 128, i / 32 % 4, i / 2 % 16, i % 2}
		if v, ok := Find(l, k); !ok || !slices.Equal(v, []int{i}) {
			t.Fatalf("Find(%v): %v, %t", k, v, ok)
		}
		if m, ok := Enter(l, k, []int{-1}); ok || len(m) != 1500 || !slices.Equal(m[i].Vec, []int{i}) {
			t.Fatalf("Enter(%v), again: %t, %d", k, ok, len(m))
		}
	}
}

// roomy is l in memory with room behind each row, and behind the last entry;
// memory and wide are all of it.
func roomy(l []Entry, room int) (m []Entry, memory []Entry, wide [][]int) {
	for _, e := range l {
		row := slices.Concat(e.Vec, slices.Repeat([]int{-77}, room))
		wide = append(wide, row)
		memory = append(memory, Entry{e.Key, row[:len(e.Vec)]})
	}
	for i := range room {
		spare := []int{-88, i}
		wide = append(wide, spare)
		memory = append(memory, Entry{Key{-88, i, i, i}, spare})
	}
	return memory[:len(l)], memory, wide
}

// spoilRow and spoil write over all memory of an answer.
func spoilRow(v []int) {
	v = v[:cap(v)]
	for i := range v {
		v[i] = -99
	}
}

func spoil(l []Entry) {
	l = l[:cap(l)]
	for i := range l {
		spoilRow(l[i].Vec)
		l[i] = Entry{Key{-99, -99, -99, -99}, []int{-99}}
	}
}

// R1: what is handed in stays as it is, up to the end of its memory, and an
// answer shares none of it. R4: the room behind the entries counts not.
func TestLedgersStay(t *testing.T) {
	for what, l := range ledgers() {
		asked := []Key{{1, 2, 3, 4}, {}, {-88, 0, 0, 0}, {-88, 1, 1, 1}, {12, 34, 56, 78}}
		if len(l) > 0 {
			asked = append(asked, l[0].Key, l[len(l)/2].Key, l[len(l)-1].Key)
		}
		for _, room := range []int{0, 1, 2, 9} {
			m, memory, wide := roomy(l, room)
			was, numbers := apart(memory), apart(rowsOf(wide))
			for _, k := range asked {
				row := slices.Concat([]int{6, 7}, slices.Repeat([]int{-66}, room))
				wantRow, there := wantFind(l, k)
				wantAll, fresh := wantEnter(l, k, []int{6, 7})
				v, ok := Find(m, k)
				n, isNew := Enter(m, k, row[:2])
				if !slices.Equal(v, wantRow) || ok != there || !same(n, wantAll) || isNew != fresh {
					t.Fatalf("%s, room for %d, %v: %v, %t, %s, %t", what, room, k, v, ok, shown(n), isNew)
				}
				spoilRow(v)
				spoil(n)
				if !same(memory, was) || !same(rowsOf(wide), numbers) || !slices.Equal(row, slices.Concat([]int{6, 7}, slices.Repeat([]int{-66}, room))) {
					t.Fatalf("%s, room for %d, %v: what was handed in is changed", what, room, k)
				}
			}
		}
	}
}

func rowsOf(wide [][]int) []Entry {
	var l []Entry
	for _, row := range wide {
		l = append(l, Entry{Vec: row})
	}
	return l
}

// R1: two that are made of one ledger do not disturb each other, however much
// room there is behind it, nor those that are made of these.
func TestTwoOfOne(t *testing.T) {
	a, b, c := Key{1, 0, 0, 0}, Key{1, 0, 0, 1}, Key{2, 0, 0, 0}
	for _, room := range []int{0, 1, 2, 9} {
		one, _, _ := roomy([]Entry{{a, []int{1}}}, room)
		second, ok := Enter(one, b, []int{2})
		third, fine := Enter(one, c, []int{3, 3})
		again, fresh := Enter(one, b, []int{4})
		fourth, _ := Enter(second, c, []int{5})
		fifth, _ := Enter(second, Key{}, nil)
		if !ok || !fine || !fresh {
			t.Errorf("room for %d: %t, %t, %t", room, ok, fine, fresh)
		}
		for got, want := range map[*[]Entry][]Entry{
			&one:    {{a, []int{1}}},
			&second: {{a, []int{1}}, {b, []int{2}}},
			&third:  {{a, []int{1}}, {c, []int{3, 3}}},
			&again:  {{a, []int{1}}, {b, []int{4}}},
			&fourth: {{a, []int{1}}, {b, []int{2}}, {c, []int{5}}},
			&fifth:  {{a, []int{1}}, {b, []int{2}}, {}},
		} {
			if !same(*got, want) {
				t.Errorf("room for %d: %v, not %v", room, *got, want)
			}
		}
	}
}

// R1: a row that is entered is not kept, nor the ledger: what they become later
// does nothing to an answer, and no two answers share memory.
func TestAnswersAreApart(t *testing.T) {
	a, b := Key{1, 0, 0, 0}, Key{1, 0, 0, 1}
	shared := []int{1, 2, 3}
	l := []Entry{{a, shared[:2]}, {Key{5, 5, 5, 5}, shared}}
	row := []int{7, 8}
	first, _ := Enter(l, b, row)
	second, _ := Enter(l, b, row)
	kept, _ := Enter(first, b, nil)
	found, _ := Find(first, b)
	twice, _ := Find(first, b)
	want := apart(first)
	spoil(second)
	spoilRow(twice)
	spoil(l)
	spoilRow(row)
	if !same(first, want) || !same(kept, want) || !slices.Equal(found, []int{7, 8}) {
		t.Errorf("what came later changed %v to %v, %v, %v", want, first, kept, found)
	}
	spoilRow(first[0].Vec)
	if !slices.Equal(first[1].Vec, []int{1, 2, 3}) || !same(kept, want) {
		t.Errorf("rows of one answer share memory: %v", first)
	}
	spoil(first)
	if !same(kept, want) || !slices.Equal(found, []int{7, 8}) {
		t.Errorf("what came later changed %v to %v, %v", want, kept, found)
	}
}

// R4: nothing is kept from call to call: what was asked and entered ahead does
// nothing to an answer.
func TestNothingIsKept(t *testing.T) {
	all := ledgers()
	for range 2 {
		for _, l := range all {
			for _, k := range []Key{{1, 2, 3, 4}, {}, {1, 1, 1, 1}} {
				checkEnter(t, l, k, []int{1})
				checkFind(t, l, k)
				checkEnter(t, nil, k, []int{2})
				checkFind(t, nil, k)
			}
		}
	}
}

// R5: a list that is nil and one that is empty are the same, as a ledger and as
// a row.
func TestNilAndEmpty(t *testing.T) {
	for _, k := range keys() {
		for _, l := range [][]Entry{nil, {}, make([]Entry, 0, 3)} {
			if v, ok := checkFind(t, l, k); len(v) != 0 || ok {
				t.Errorf("Find(%v): %v, %t", k, v, ok)
			}
			for _, v := range [][]int{nil, {}, make([]int, 0, 3)} {
				m, ok := checkEnter(t, l, k, v)
				if !ok || len(m) != 1 || m[0].Key != k || len(m[0].Vec) != 0 {
					t.Errorf("Enter(%v): %v, %t", k, m, ok)
				}
				if again, ok := checkEnter(t, m, k, []int{1}); ok || !same(again, m) {
					t.Errorf("Enter(%v), again: %v, %t", k, again, ok)
				}
			}
		}
	}
}

func FuzzLedger(f *testing.F) {
	f.Add([]byte{1, 2, 3, 1, 1, 2}, 1, 2, 3, 4)
	f.Add([]byte{0, 0, 255, 255, 16, 17, 18}, 0, 0, 0, 0)
	f.Add([]byte{}, math.MinInt, math.MaxInt, -1, 1<<32)
	f.Fuzz(func(t *testing.T, steps []byte, a, b, c, d int) {
		steps = steps[:min(len(steps), 200)]
		keyOf := func(n byte) Key {
			k := Key{a, b, c, d}
			return with(with(k, int(n%4), a+int(n/4%4)), int(n/16%4), d-int(n/64))
		}
		var l []Entry
		first := map[Key][]int{}
		var came []Key
		for i, n := range steps {
			k, v := keyOf(n), []int{i, a, int(n), d}[:i%5]
			if _, ok := first[k]; !ok {
				first[k], came = slices.Clone(v), append(came, k)
			}
			checkFind(t, l, k)
			l, _ = checkEnter(t, l, k, v)
		}
		var few []Key
		for n := range 256 {
			few = append(few, keyOf(byte(n)))
		}
		checkAll(t, l, few, came, first)
	})
}
