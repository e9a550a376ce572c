package bag

import (
	"container/list"
	"math"
	"slices"
	"strconv"
	"strings"
	"testing"

	"switchboard/api"
)

// lengths are those around which something could turn, and some beyond.
func lengths() []int {
	return []int{0, 1, 2, 3, 4, 7, 8, 31, 32, 64, 100, 127, 128, 198, 199, 200, 201, 202, 255, 256, 257, 400, 1000}
}

// noPlaces are the places of a bag of n texts that are none.
func noPlaces(n int) []int {
	return []int{-1, -2, -n, -n - 1, n, n + 1, 2*n + 1, 1 << 32, -1 << 32, math.MaxInt32, math.MinInt32, math.MaxInt - 1, math.MinInt + 1, math.MaxInt, math.MinInt}
}

// texts are n of them, no two alike.
func texts(n int) []string {
	l := make([]string, n)
	for i := range l {
		l[i] = "frame " + strconv.Itoa(i)
	}
	return l
}

// odd are texts in which a byte could go astray.
func odd() []string {
	return []string{
		"", "x", " ", "\x00", "\x00\x00", "a\x00b", "\xff", "\xff\xfe\x80", "\n", "ä", "日本", "\u200b",
		strings.Repeat("y", 200), strings.Repeat("z", 201), strings.Repeat("\x00long", 1<<16),
	}
}

// bags are of each of the lengths, of texts that are all alike, of empty ones,
// and of odd ones.
func bags() [][]string {
	all := [][]string{nil, {}, make([]string, 0, 9), odd(), slices.Repeat(odd(), 20)}
	for _, n := range lengths() {
		all = append(all, texts(n), slices.Repeat([]string{"same"}, n), make([]string, n))
	}
	return all
}

// listed is a bag as the library's list, in which texts are moved one by one.
func listed(l []string) *list.List {
	all := list.New()
	for _, s := range l {
		all.PushBack(s)
	}
	return all
}

func unlisted(all *list.List) []string {
	var l []string
	for e := all.Front(); e != nil; e = e.Next() {
		l = append(l, e.Value.(string))
	}
	return l
}

// elementAt is the one at the place i, and nil if there is none.
func elementAt(all *list.List, i int) *list.Element {
	at := 0
	for e := all.Front(); e != nil; e = e.Next() {
		if at == i {
			return e
		}
		at++
	}
	return nil
}

// wantPut, wantTake and wantTwice are P8.1.
func wantPut(l []string, s string) []string {
	all := listed(l)
	if all.Len() < 200 {
		all.PushBack(s)
	}
	return unlisted(all)
}

func wantTake(l []string, i int) (string, []string, bool) {
	all := listed(l)
	e := elementAt(all, i)
	if e == nil {
		return "", unlisted(all), false
	}
	s := all.Remove(e).(string)
	return s, unlisted(all), true
}

func wantTwice(l []string, i int) []string {
	all := listed(l)
	if e := elementAt(all, i); e != nil && all.Len() < 200 {
		all.PushBack(e.Value)
	}
	return unlisted(all)
}

// shown keeps what a test says of many texts short.
func shown(l []string) string {
	if len(l) > 6 {
		return strconv.Itoa(len(l)) + " texts, the last " + shown(l[len(l)-3:])
	}
	said := "["
	for _, s := range l {
		if len(s) > 40 {
			s = s[:40] + ".."
		}
		said += strconv.Quote(s) + " "
	}
	return said + "]"
}

func checkPut(t *testing.T, l []string, s string) []string {
	t.Helper()
	got, w := Put(l, s), wantPut(l, s)
	if !slices.Equal(got, w) {
		t.Fatalf("Put(%s, %.40q): %s, not %s", shown(l), s, shown(got), shown(w))
	}
	return got
}

func checkTake(t *testing.T, l []string, i int) (string, []string, bool) {
	t.Helper()
	s, got, ok := Take(l, i)
	x, w, there := wantTake(l, i)
	if s != x || ok != there || !slices.Equal(got, w) {
		t.Fatalf("Take(%s, %d): %.40q, %s, %v, not %.40q, %s, %v", shown(l), i, s, shown(got), ok, x, shown(w), there)
	}
	return s, got, ok
}

func checkTwice(t *testing.T, l []string, i int) []string {
	t.Helper()
	got, w := Twice(l, i), wantTwice(l, i)
	if !slices.Equal(got, w) {
		t.Fatalf("Twice(%s, %d): %s, not %s", shown(l), i, shown(got), shown(w))
	}
	return got
}

// P8.1: the chapter's example, and short bags that are written out.
func TestWrittenOut(t *testing.T) {
	if s, others, ok := Take([]string{"a", "b"}, 0); s != "a" || !slices.Equal(others, []string{"b"}) || !ok {
		t.Errorf("Take of a, b at 0: %q, %q, %v", s, others, ok)
	}
	abc := []string{"a", "b", "c"}
	for _, c := range []struct {
		what      string
		got, want []string
	}{
		{"Put into nil", Put(nil, "a"), []string{"a"}},
		{"Put into none", Put([]string{}, "a"), []string{"a"}},
		{"Put of the empty text", Put(nil, ""), []string{""}},
		{"Put behind", Put(abc, "d"), []string{"a", "b", "c", "d"}},
		{"Put of one that is there", Put(abc, "a"), []string{"a", "b", "c", "a"}},
		{"Twice at 0", Twice(abc, 0), []string{"a", "b", "c", "a"}},
		{"Twice at 1", Twice(abc, 1), []string{"a", "b", "c", "b"}},
		{"Twice at 2", Twice(abc, 2), []string{"a", "b", "c", "c"}},
		{"Twice at 3", Twice(abc, 3), abc},
		{"Twice at -1", Twice(abc, -1), abc},
		{"Twice of nil", Twice(nil, 0), nil},
	} {
		if !slices.Equal(c.got, c.want) {
			t.Errorf("%s: %q, not %q", c.what, c.got, c.want)
		}
	}
	for _, c := range []struct {
		at     int
		s      string
		others []string
		ok     bool
	}{
		{0, "a", []string{"b", "c"}, true}, {1, "b", []string{"a", "c"}, true}, {2, "c", []string{"a", "b"}, true},
		{3, "", abc, false}, {-1, "", abc, false}, {math.MaxInt, "", abc, false}, {math.MinInt, "", abc, false},
	} {
		if s, others, ok := Take(abc, c.at); s != c.s || !slices.Equal(others, c.others) || ok != c.ok {
			t.Errorf("Take at %d: %q, %q, %v", c.at, s, others, ok)
		}
	}
}

// P8.1: Put, with bags of each length and texts of every kind.
func TestPut(t *testing.T) {
	for _, l := range bags() {
		for _, s := range odd() {
			got := checkPut(t, l, s)
			if len(l) < api.MaxBag && (len(got) != len(l)+1 || got[len(l)] != s) {
				t.Errorf("Put(%s, %.40q): not behind: %s", shown(l), s, shown(got))
			}
		}
	}
}

// P8.1: at 200, and beyond, all texts stay and none comes behind.
func TestPutIntoAFullBag(t *testing.T) {
	for n, more := range map[int]int{198: 1, 199: 1, 200: 0, 201: 0, 202: 0, 399: 0, 400: 0, 5000: 0} {
		l := texts(n)
		got := Put(l, "more")
		if len(got) != n+more || !slices.Equal(got[:n], l) {
			t.Errorf("Put into %d: %d, not %d: %s", n, len(got), n+more, shown(got))
		}
	}
	var l []string
	for i := range 300 {
		l = Put(l, strconv.Itoa(i))
		if len(l) != min(i+1, 200) {
			t.Fatalf("%d, one by one: %d", i+1, len(l))
		}
	}
	for i, s := range l {
		if s != strconv.Itoa(i) {
			t.Errorf("at %d: %q", i, s)
		}
	}
}

// P8.1: Take at each place.
func TestTake(t *testing.T) {
	for _, l := range bags() {
		for i := range l {
			if s, others, ok := checkTake(t, l, i); !ok || s != l[i] || len(others) != len(l)-1 {
				t.Errorf("Take(%s, %d): %.40q, %s, %v", shown(l), i, s, shown(others), ok)
			}
		}
	}
}

// P8.1: Take where there is none: nothing, l, and false.
func TestTakeOfNone(t *testing.T) {
	for _, l := range bags() {
		places := noPlaces(len(l))
		if len(l) == 0 {
			places = append(places, 0)
		}
		for _, i := range places {
			if i >= 0 && i < len(l) {
				continue
			}
			if s, all, ok := checkTake(t, l, i); s != "" || ok || !slices.Equal(all, l) {
				t.Errorf("Take(%s, %d): %.40q, %s, %v", shown(l), i, s, shown(all), ok)
			}
		}
	}
}

// P8.1: Twice at each place: once where it was, and once behind, while there is
// room.
func TestTwice(t *testing.T) {
	for _, l := range bags() {
		for i := range l {
			got := checkTwice(t, l, i)
			if !slices.Equal(got[:len(l)], l) {
				t.Errorf("Twice(%s, %d): ahead: %s", shown(l), i, shown(got))
			}
			if len(l) < api.MaxBag && (len(got) != len(l)+1 || got[len(l)] != l[i]) {
				t.Errorf("Twice(%s, %d): behind: %s", shown(l), i, shown(got))
			}
			if len(l) >= api.MaxBag && len(got) != len(l) {
				t.Errorf("Twice(%s, %d): it was full: %s", shown(l), i, shown(got))
			}
		}
	}
	for _, i := range []int{0, 1, 100, 197, 198} {
		l := texts(199)
		got := Twice(l, i)
		count := 0
		for _, s := range got {
			if s == l[i] {
				count++
			}
		}
		if len(got) != 200 || count != 2 || got[i] != l[i] || got[199] != l[i] {
			t.Errorf("Twice of 199 at %d: %d, of which %d are it", i, len(got), count)
		}
	}
}

// P8.1: Twice where there is none: l alone.
func TestTwiceOfNone(t *testing.T) {
	for _, l := range bags() {
		places := noPlaces(len(l))
		if len(l) == 0 {
			places = append(places, 0)
		}
		for _, i := range places {
			if i >= 0 && i < len(l) {
				continue
			}
			if got := checkTwice(t, l, i); !slices.Equal(got, l) {
				t.Errorf("Twice(%s, %d): %s", shown(l), i, shown(got))
			}
		}
	}
}

// P8.2: what is put in is taken out, at its place, and the bag is as it was; so
// it is with what Twice puts behind.
func TestPutIsTakenOut(t *testing.T) {
	for _, l := range bags() {
		if len(l) >= api.MaxBag {
			continue
		}
		for _, s := range odd() {
			if got, was, ok := Take(Put(l, s), len(l)); got != s || !ok || !slices.Equal(was, l) {
				t.Errorf("Take(Put(%s, %.40q)): %.40q, %s, %v", shown(l), s, got, shown(was), ok)
			}
		}
		for i, s := range l {
			if got, was, ok := Take(Twice(l, i), len(l)); got != s || !ok || !slices.Equal(was, l) {
				t.Errorf("Take(Twice(%s, %d)): %.40q, %s, %v", shown(l), i, got, shown(was), ok)
			}
		}
	}
}

// P8.2: what was put in one by one comes out in its order, from whichever end,
// and then there is none.
func TestAllAreTakenOut(t *testing.T) {
	for _, l := range bags() {
		put := l
		if len(l) <= api.MaxBag {
			put = nil
			for _, s := range l {
				put = Put(put, s)
			}
		}
		checkEmptied(t, put, l, func(int) int { return 0 })
		backwards := slices.Clone(l)
		slices.Reverse(backwards)
		checkEmptied(t, put, backwards, func(left int) int { return left - 1 })
	}
}

// checkEmptied takes out of l, each time at the place for so many that are
// left, and wants these texts.
func checkEmptied(t *testing.T, l, wanted []string, place func(left int) int) {
	t.Helper()
	for k, w := range wanted {
		s, others, ok := Take(l, place(len(l)))
		if s != w || !ok || len(others) != len(l)-1 {
			t.Fatalf("taken as number %d out of %s: %.40q, %s, %v", k, shown(l), s, shown(others), ok)
		}
		l = others
	}
	if s, others, ok := Take(l, 0); s != "" || len(l) != 0 || len(others) != 0 || ok {
		t.Errorf("emptied: %s; then %.40q, %s, %v", shown(l), s, shown(others), ok)
	}
}

// P8.2: a full bag takes one again when one was taken out, and just one; one
// that has more than 200 does so when it has 199.
func TestRoomAgain(t *testing.T) {
	full := texts(200)
	for i := range full {
		_, others, _ := Take(full, i)
		got := Put(others, "new")
		if len(got) != 200 || got[199] != "new" || !slices.Equal(got[:199], others) {
			t.Fatalf("full, without that at %d: %s", i, shown(got))
		}
		if again := Put(got, "newer"); !slices.Equal(again, got) {
			t.Fatalf("full again: %s", shown(again))
		}
		if twice := Twice(others, i%199); len(twice) != 200 || twice[199] != others[i%199] {
			t.Fatalf("full, without that at %d, Twice: %s", i, shown(twice))
		}
	}
	l := texts(203)
	for len(l) > 199 {
		if got := Put(l, "new"); !slices.Equal(got, l) {
			t.Errorf("Put into %d: %s", len(l), shown(got))
		}
		_, l, _ = Take(l, len(l)/2)
	}
	if got := Put(l, "new"); len(got) != 200 || got[199] != "new" {
		t.Errorf("Put into 199 of 203: %s", shown(got))
	}
}

// calls are those of which the answered list could share memory with l.
func calls(l []string) map[string]func() []string {
	n := len(l)
	all := map[string]func() []string{
		"Put":            func() []string { return Put(l, "put") },
		"Put of nothing": func() []string { return Put(l, "") },
	}
	for _, i := range []int{0, 1, n / 2, n - 2, n - 1, -1, n, math.MinInt, math.MaxInt} {
		all["Take at "+strconv.Itoa(i)] = func() []string { _, others, _ := Take(l, i); return others }
		all["Twice at "+strconv.Itoa(i)] = func() []string { return Twice(l, i) }
	}
	return all
}

// spoil writes into all memory that a list can reach.
func spoil(l []string) {
	l = l[:cap(l)]
	for i := range l {
		l[i] = "spoiled"
	}
}

// R1: l is afterwards what it was, up to the end of its memory, and an answer
// shares none of it: neither is changed by what is written into the other.
func TestListsStay(t *testing.T) {
	for _, n := range lengths() {
		for _, room := range []int{0, 1, 2, 50} {
			memory := texts(n + room)
			was := slices.Clone(memory)
			for what, call := range calls(memory[:n]) {
				answer := call()
				if !slices.Equal(memory, was) {
					t.Fatalf("%s of %d, room for %d: the list is now %s", what, n, room, shown(memory))
				}
				kept := slices.Clone(answer)
				spoil(memory)
				if !slices.Equal(answer, kept) {
					t.Fatalf("%s of %d, room for %d: the answer changes with the list", what, n, room)
				}
				copy(memory, was)
				spoil(answer)
				if !slices.Equal(memory, was) {
					t.Fatalf("%s of %d, room for %d: the list changes with the answer", what, n, room)
				}
			}
		}
	}
}

// R1: each of the calls with one list leaves what the others answered as it was.
func TestAnswersStay(t *testing.T) {
	for _, n := range lengths() {
		l := texts(n + 9)[:n]
		for what, first := range calls(l) {
			answer := first()
			kept := slices.Clone(answer)
			for then, second := range calls(l) {
				other := second()
				if !slices.Equal(answer, kept) {
					t.Fatalf("%s of %d, then %s: %s, not %s", what, n, then, shown(answer), shown(kept))
				}
				spoil(other)
				if !slices.Equal(answer, kept) {
					t.Fatalf("%s and %s of %d share memory", what, then, n)
				}
			}
		}
	}
	l := make([]string, 0, 8)
	a, b := Put(l, "a"), Put(l, "b")
	ax, ay := Put(a, "x"), Twice(a, 0)
	if !slices.Equal(a, []string{"a"}) || !slices.Equal(b, []string{"b"}) || !slices.Equal(ax, []string{"a", "x"}) || !slices.Equal(ay, []string{"a", "a"}) {
		t.Errorf("%q, %q, %q, %q", a, b, ax, ay)
	}
}

// R4: what is answered hangs on the texts, not on the room behind them.
func TestRoomCountsNot(t *testing.T) {
	for _, n := range lengths() {
		tight, roomy := texts(n), texts(n + 300)[:n]
		wide := calls(roomy)
		for what, call := range calls(slices.Clip(tight)) {
			if a, b := call(), wide[what](); !slices.Equal(a, b) {
				t.Errorf("%s of %d: %s, with room behind %s", what, n, shown(a), shown(b))
			}
		}
	}
}

// play does what the bytes say to a bag of so many texts, each step held
// against the chapter.
func play(t *testing.T, begin int, steps []byte) {
	t.Helper()
	l := texts(begin)
	for k := 0; k+1 < len(steps); k += 2 {
		i := int(steps[k+1]) - 3
		switch steps[k] % 4 {
		case 0, 1:
			l = checkPut(t, l, "step "+strconv.Itoa(k))
		case 2:
			_, l, _ = checkTake(t, l, i)
		default:
			l = checkTwice(t, l, i)
		}
		if len(l) > max(begin, 200) {
			t.Fatalf("begun with %d: now %d", begin, len(l))
		}
	}
}

// P8.1, P8.2: long plays, always the same ones.
func TestPlays(t *testing.T) {
	mixed := uint64(8)
	for _, begin := range lengths() {
		steps := make([]byte, 1200)
		for i := range steps {
			mixed = mixed*6364136223846793005 + 1442695040888963407
			steps[i] = byte(mixed >> 40)
		}
		play(t, begin, steps)
	}
}

func FuzzBag(f *testing.F) {
	f.Add(0, []byte{0, 0, 2, 3, 2, 3})
	f.Add(199, []byte{0, 0, 0, 0, 3, 3, 2, 202, 2, 203, 3, 3})
	f.Add(201, []byte{0, 0, 3, 5, 2, 203, 2, 3, 2, 2, 0, 0})
	f.Fuzz(func(t *testing.T, begin int, steps []byte) {
		if begin < 0 || begin > 1000 || len(steps) > 2000 {
			t.Skip()
		}
		play(t, begin, steps)
	})
}
