package link

import (
	"container/list"
	"fmt"
	"math"
	"slices"
	"strconv"
	"strings"
	"testing"

	"switchboard/api"
)

const top = 1<<31 - 1

// run is so many numbers from the first one on, each by a step above the last.
func run(first, many, step int) []int {
	l := make([]int, many)
	for i := range l {
		l[i] = first + i*step
	}
	return l
}

// framed is a frame for each number, no two texts alike.
func framed(numbers ...int) []Frame {
	queue := make([]Frame, len(numbers))
	for i, n := range numbers {
		queue[i] = Frame{n, "text " + strconv.Itoa(i)}
	}
	return queue
}

// shown keeps what a test says of a link short.
func shown(l Link) string {
	said := fmt.Sprintf("{%d [", l.Next)
	for i, f := range l.Queue {
		if i > 5 && i < len(l.Queue)-2 {
			continue
		}
		said += fmt.Sprintf("%d:%.20q ", f.Seq, f.Text)
	}
	return fmt.Sprintf("%s](%d)}", said, len(l.Queue))
}

func same(k, l Link) bool {
	return k.Next == l.Next && slices.Equal(k.Queue, l.Queue)
}

func copied(l Link) Link {
	return Link{l.Next, slices.Clone(l.Queue)}
}

// extremes are numbers around which something could turn.
func extremes() []int {
	return []int{
		math.MinInt, math.MinInt + 1, -1 << 32, math.MinInt32 - 1, math.MinInt32, math.MinInt32 + 1, -65, -64, -2, -1,
		0, 1, 2, 3, 31, 32, 63, 64, 65, 66, top - 65, top - 64, top - 63, top - 2, top - 1, top, top + 1, top + 2,
		1 << 32, 1<<32 + 1, math.MaxInt - 1, math.MaxInt,
	}
}

// odd are texts in which a byte could go astray.
func odd() []string {
	return []string{
		"", "x", " ", "\x00", "\x00\x00", "a\x00b", "\xff", "\xff\xfe\x80", "\xc3", "\xed\xa0\x80", "\n", "ä", "日本", "\u200b",
		strings.Repeat("y", 64), strings.Repeat("z", 65), strings.Repeat("\x00long\xff", 1<<16),
	}
}

// rightOnes are links that are right: of none, one, some, 63 and 64 frames, with
// and without gaps, the first at 0 and behind it, the last at Next - 1 and ahead
// of it, at both ends.
func rightOnes() []Link {
	all := []Link{
		{}, {0, []Frame{}}, {0, make([]Frame, 0, 9)}, {1, nil}, {top - 1, nil}, {top, nil}, {top, []Frame{}},
		{1, framed(0)}, {2, framed(0)}, {2, framed(1)}, {top, framed(0)}, {top, framed(top - 1)}, {top - 1, framed(top - 2)},
		{top, framed(0, top-1)}, {top - 1, framed(0, top-2)}, {12, framed(3, 4, 7, 11)}, {5, []Frame{{0, ""}, {1, "\xff"}, {4, ""}}},
	}
	for _, many := range []int{1, 2, 3, 30, 62, 63, 64} {
		for _, step := range []int{1, 2, 1000} {
			for _, first := range []int{0, 1, 700, top - 64000} {
				numbers := run(first, many, step)
				last := numbers[many-1]
				all = append(all, Link{last + 1, framed(numbers...)}, Link{last + 2, framed(numbers...)}, Link{top, framed(numbers...)})
			}
			last := top - 1 - step*(many-1)
			all = append(all, Link{top, framed(run(last, many, step)...)}, Link{top - 1, framed(run(last-1, many, step)...)})
		}
	}
	return all
}

// wrongOnes are links that are wrong, each in one way.
func wrongOnes() map[string]Link {
	all := map[string]Link{
		"65":                      {65, framed(run(0, 65, 1)...)},
		"65 with gaps":            {1000, framed(run(10, 65, 2)...)},
		"65, up to the greatest":  {top, framed(run(top-65, 65, 1)...)},
		"66":                      {1000, framed(run(0, 66, 1)...)},
		"128":                     {1000, framed(run(0, 128, 1)...)},
		"256":                     {1000, framed(run(0, 256, 1)...)},
		"1000":                    {5000, framed(run(10, 1000, 3)...)},
		"65 that are alike":       {1000, framed(run(10, 65, 0)...)},
		"64 that are alike":       {1000, framed(run(10, 64, 0)...)},
		"64 that fall":            {1000, framed(run(100, 64, -1)...)},
		"64, the last two alike":  {1000, framed(append(run(0, 63, 1), 62)...)},
		"64, the first two alike": {1000, framed(append([]int{0}, run(0, 63, 1)...)...)},
		"64, the last falls":      {1000, framed(append(run(1, 63, 1), 0)...)},
		"64, the last at Next":    {63, framed(run(0, 64, 1)...)},
		"64, the last at top":     {top, framed(append(run(0, 63, 1), top)...)},
		"64, from -1 on":          {63, framed(run(-1, 64, 1)...)},
		"64, from the least on":   {1000, framed(append([]int{math.MinInt}, run(0, 63, 1)...)...)},
		"the first at -1":         {9, framed(-1)},
		"the first at -1, others": {9, framed(-1, 0, 1)},
		"the least int":           {9, framed(math.MinInt)},
		"the least int, others":   {9, framed(math.MinInt, 0, 1)},
		"the last at Next":        {9, framed(9)},
		"the last at Next, more":  {9, framed(0, 8, 9)},
		"the last above Next":     {9, framed(10)},
		"the last above, more":    {9, framed(0, 8, 10)},
		"0 at Next 0":             {0, framed(0)},
		"the greatest at Next":    {top, framed(top)},
		"above the greatest":      {top, framed(top + 1)},
		"the greatest int":        {9, framed(math.MaxInt)},
		"the greatest int at top": {top, framed(math.MaxInt)},
		"over the greatest":       {9, framed(math.MaxInt, math.MinInt)},
		"2^32 more":               {9, framed(1<<32 + 5)},
		"2^32 less":               {9, framed(-1<<32 + 5)},
		"twice":                   {9, framed(5, 5)},
		"twice 0":                 {9, framed(0, 0)},
		"twice, the first":        {9, framed(5, 5, 6, 7)},
		"twice, in between":       {9, framed(4, 5, 5, 7)},
		"twice, the last":         {9, framed(5, 6, 7, 7)},
		"twice, apart":            {9, framed(5, 6, 5)},
		"thrice":                  {9, framed(8, 8, 8)},
		"twice, a frame as it is": {9, []Frame{{5, "a"}, {5, "a"}}},
		"falling":                 {9, framed(6, 5)},
		"falling to 0":            {9, framed(1, 0)},
		"falling at the end":      {9, framed(5, 6, 8, 7)},
		"falling in between":      {9, framed(3, 8, 7, 8)},
		"falling to -1":           {9, framed(5, -1)},
	}
	for _, next := range []int{math.MinInt, math.MinInt + 1, -1 << 32, math.MinInt32, -2, -1, top + 1, top + 2, 1 << 32, 1<<32 + 5, math.MaxInt - 1, math.MaxInt} {
		all[fmt.Sprintf("Next %d", next)] = Link{next, nil}
		all[fmt.Sprintf("Next %d, and none", next)] = Link{next, []Frame{}}
		all[fmt.Sprintf("Next %d, and 0", next)] = Link{next, framed(0)}
		all[fmt.Sprintf("Next %d, and one below", next)] = Link{next, framed(next - 1)}
		all[fmt.Sprintf("Next %d, and 64", next)] = Link{next, framed(run(0, 64, 1)...)}
		all[fmt.Sprintf("Next %d, and 65", next)] = Link{next, framed(run(0, 65, 1)...)}
	}
	return all
}

func allOnes() []Link {
	all := rightOnes()
	for _, l := range wrongOnes() {
		all = append(all, l)
	}
	return all
}

// wantRight, wantPush and wantTold are P10.1; the two that make links move
// frames one by one, in the library's list.
func wantRight(l Link) bool {
	var numbers []int
	for _, f := range l.Queue {
		numbers = append(numbers, f.Seq)
	}
	outside := slices.ContainsFunc(numbers, func(n int) bool { return n < 0 || n >= l.Next })
	rising := slices.IsSorted(numbers) && len(slices.Compact(slices.Clone(numbers))) == len(numbers)
	return l.Next >= 0 && l.Next <= 2147483647 && len(numbers) <= 64 && rising && !outside
}

func listed(l Link) *list.List {
	all := list.New()
	for _, f := range l.Queue {
		all.PushBack(f)
	}
	return all
}

func unlisted(next int, all *list.List) Link {
	l := Link{Next: next}
	for e := all.Front(); e != nil; e = e.Next() {
		l.Queue = append(l.Queue, e.Value.(Frame))
	}
	return l
}

func wantPush(l Link, text string) (Link, int, api.Errno) {
	if !wantRight(l) || l.Next == 2147483647 {
		return copied(l), 0, 1
	}
	all := listed(l)
	if all.Len() == 64 {
		return copied(l), 0, 8
	}
	all.PushBack(Frame{l.Next, text})
	return unlisted(l.Next+1, all), l.Next, 0
}

func wantTold(l Link, seq int) Link {
	all := listed(l)
	for e := all.Front(); e != nil; {
		f, behind := e.Value.(Frame), e.Next()
		if f.Seq == seq {
			all.Remove(e)
		}
		e = behind
	}
	return unlisted(l.Next, all)
}

// checkPush and checkTold hold one call against the chapter, and what was handed
// in against what it was.
func checkPush(t *testing.T, l Link, text string) (Link, int, api.Errno) {
	t.Helper()
	was := copied(l)
	got, seq, e := Push(l, text)
	want, number, errno := wantPush(was, text)
	if e != errno || seq != number || !same(got, want) {
		t.Fatalf("Push(%s, %.20q): %s, %d, %d, not %s, %d, %d", shown(was), text, shown(got), seq, e, shown(want), number, errno)
	}
	if !same(l, was) {
		t.Fatalf("Push(%s, %.20q): l is now %s", shown(was), text, shown(l))
	}
	if e == api.OK && !Right(got) {
		t.Fatalf("Push(%s, %.20q): not right: %s", shown(was), text, shown(got))
	}
	return got, seq, e
}

func checkTold(t *testing.T, l Link, seq int) Link {
	t.Helper()
	was := copied(l)
	got, want := Told(l, seq), wantTold(was, seq)
	if !same(got, want) {
		t.Fatalf("Told(%s, %d): %s, not %s", shown(was), seq, shown(got), shown(want))
	}
	if !same(l, was) {
		t.Fatalf("Told(%s, %d): l is now %s", shown(was), seq, shown(l))
	}
	if Right(was) && !Right(got) {
		t.Fatalf("Told(%s, %d): not right any more: %s", shown(was), seq, shown(got))
	}
	return got
}

// seqs are numbers that something could come of: around Next, around each
// frame's, and those around which something could turn.
func seqs(l Link) []int {
	all := extremes()
	for d := -2; d <= 2; d++ {
		all = append(all, l.Next+d)
		for _, f := range l.Queue {
			all = append(all, f.Seq+d)
		}
	}
	return all
}

// P10.1, P10.2: the chapter's example.
func TestExample(t *testing.T) {
	one, first, e := Push(Link{}, "a")
	if first != 0 || e != api.OK || !same(one, Link{1, []Frame{{0, "a"}}}) {
		t.Fatalf("Push: %s, %d, %d", shown(one), first, e)
	}
	two, second, e := Push(one, "b")
	if second != 1 || e != api.OK || !same(two, Link{2, []Frame{{0, "a"}, {1, "b"}}}) {
		t.Fatalf("Push twice: %s, %d, %d", shown(two), second, e)
	}
	if left := Told(two, 0); !same(left, Link{2, []Frame{{1, "b"}}}) {
		t.Errorf("Push twice, Told of 0: %s", shown(left))
	}
}

// P10.1: pushes that are written out.
func TestPushWrittenOut(t *testing.T) {
	a, b := Frame{3, "a"}, Frame{7, "b"}
	for _, c := range []struct {
		l    Link
		text string
		want Link
		seq  int
		e    api.Errno
	}{
		{Link{}, "", Link{1, []Frame{{0, ""}}}, 0, 0},
		{Link{8, []Frame{a, b}}, "c", Link{9, []Frame{a, b, {8, "c"}}}, 8, 0},
		{Link{8, []Frame{a, b}}, "a", Link{9, []Frame{a, b, {8, "a"}}}, 8, 0},
		{Link{9, []Frame{a, b}}, "c", Link{10, []Frame{a, b, {9, "c"}}}, 9, 0},
		{Link{500, nil}, "c", Link{501, []Frame{{500, "c"}}}, 500, 0},
		{Link{2147483646, nil}, "c", Link{2147483647, []Frame{{2147483646, "c"}}}, 2147483646, 0},
		{Link{2147483647, nil}, "c", Link{2147483647, nil}, 0, 1},
		{Link{2147483647, []Frame{a}}, "c", Link{2147483647, []Frame{a}}, 0, 1},
		{Link{2147483648, nil}, "c", Link{2147483648, nil}, 0, 1},
		{Link{-1, nil}, "c", Link{-1, nil}, 0, 1},
		{Link{7, []Frame{a, b}}, "c", Link{7, []Frame{a, b}}, 0, 1},
		{Link{8, []Frame{b, a}}, "c", Link{8, []Frame{b, a}}, 0, 1},
		{Link{8, []Frame{b, b}}, "c", Link{8, []Frame{b, b}}, 0, 1},
		{Link{8, []Frame{{-1, "z"}, b}}, "c", Link{8, []Frame{{-1, "z"}, b}}, 0, 1},
	} {
		if got, seq, e := Push(c.l, c.text); seq != c.seq || e != c.e || !same(got, c.want) {
			t.Errorf("Push(%s, %q): %s, %d, %d", shown(c.l), c.text, shown(got), seq, e)
		}
	}
}

// P10.1: tellings that are written out, also of links that are not right.
func TestToldWrittenOut(t *testing.T) {
	a, b, c, again := Frame{3, "a"}, Frame{5, "b"}, Frame{7, "c"}, Frame{5, "again"}
	abc := []Frame{a, b, c}
	for _, k := range []struct {
		queue []Frame
		seq   int
		left  []Frame
	}{
		{abc, 3, []Frame{b, c}}, {abc, 5, []Frame{a, c}}, {abc, 7, []Frame{a, b}},
		{abc, 0, abc}, {abc, 1, abc}, {abc, 2, abc}, {abc, 4, abc}, {abc, 6, abc}, {abc, 8, abc}, {abc, 9, abc}, {abc, 10, abc},
		{abc, -1, abc}, {abc, -3, abc}, {abc, math.MinInt, abc}, {abc, math.MaxInt, abc}, {abc, 1<<32 + 5, abc},
		{nil, 0, nil}, {nil, 8, nil}, {[]Frame{b}, 5, nil}, {[]Frame{b}, 4, []Frame{b}},
		{[]Frame{b, again}, 5, nil}, {[]Frame{b, a, again}, 5, []Frame{a}}, {[]Frame{c, b, again, a, b}, 5, []Frame{c, a}},
		{[]Frame{c, b, a}, 7, []Frame{b, a}}, {[]Frame{c, b, a}, 3, []Frame{c, b}},
		{[]Frame{{-1, "z"}, a}, -1, []Frame{a}}, {[]Frame{a, {99, "z"}}, 99, []Frame{a}},
		{[]Frame{{math.MinInt, "z"}, a, {math.MaxInt, "y"}}, math.MinInt, []Frame{a, {math.MaxInt, "y"}}},
		{[]Frame{{math.MinInt, "z"}, a, {math.MaxInt, "y"}}, math.MaxInt, []Frame{{math.MinInt, "z"}, a}},
	} {
		for _, next := range []int{8, 9, top, top + 1, 0, -1, math.MinInt, math.MaxInt} {
			if got := Told(Link{next, k.queue}, k.seq); !same(got, Link{next, k.left}) {
				t.Errorf("Told(%s, %d): %s", shown(Link{next, k.queue}), k.seq, shown(got))
			}
		}
	}
}

// P10.1: links that are right.
func TestRight(t *testing.T) {
	for _, l := range rightOnes() {
		if !wantRight(l) {
			t.Fatalf("the test's own: %s", shown(l))
		}
		if !Right(l) {
			t.Errorf("Right(%s): false", shown(l))
		}
	}
}

// P10.1: links that are wrong, each in one way.
func TestWrong(t *testing.T) {
	for what, l := range wrongOnes() {
		if wantRight(l) {
			t.Fatalf("the test's own: %s: %s", what, shown(l))
		}
		if Right(l) {
			t.Errorf("%s: Right(%s): true", what, shown(l))
		}
	}
}

// P10.1: what Next may be, with no frame and with one.
func TestNext(t *testing.T) {
	for next, right := range map[int]bool{
		math.MinInt: false, math.MinInt32: false, -1: false, 0: true, 1: true, 2147483646: true,
		2147483647: true, 2147483648: false, 1 << 32: false, math.MaxInt: false,
	} {
		if Right(Link{next, nil}) != right || Right(Link{next, []Frame{}}) != right {
			t.Errorf("Next %d, no frame: not %v", next, right)
		}
		if Right(Link{next, framed(0)}) != (right && next > 0) {
			t.Errorf("Next %d, and 0: not %v", next, right && next > 0)
		}
	}
}

// P10.1: each number that something could turn around, as Next and as one, two
// and three frames' number.
func TestRightOfExtremes(t *testing.T) {
	check := func(l Link) {
		if got, want := Right(l), wantRight(l); got != want {
			t.Errorf("Right(%s): %v", shown(l), got)
		}
	}
	for _, next := range extremes() {
		check(Link{next, nil})
		for _, a := range extremes() {
			check(Link{next, framed(a)})
			for _, b := range extremes() {
				check(Link{next, framed(a, b)})
				check(Link{next, framed(a, 40, b)})
			}
		}
	}
}

// P10.1: how many frames there may be.
func TestHowMany(t *testing.T) {
	for many, right := range map[int]bool{0: true, 1: true, 2: true, 32: true, 33: true, 63: true, 64: true, 65: false, 66: false, 128: false, 256: false, 320: false} {
		for _, l := range []Link{{many, framed(run(0, many, 1)...)}, {5000, framed(run(1, many, 2)...)}, {top, framed(run(top-many, many, 1)...)}} {
			if Right(l) != right {
				t.Errorf("%d: Right(%s): %v", many, shown(l), !right)
			}
		}
	}
	if api.MaxQueue != 64 || api.Top != top {
		t.Errorf("the limits: %d, %d", api.MaxQueue, api.Top)
	}
}

// P10.1: the new frame is behind all others, with its text, byte by byte, and
// the number that is told, and Next is one more.
func TestPush(t *testing.T) {
	for _, l := range rightOnes() {
		if l.Next == top || len(l.Queue) == 64 {
			continue
		}
		for _, text := range odd() {
			got, seq, e := checkPush(t, l, text)
			n := len(l.Queue)
			if e != api.OK || seq != l.Next || got.Next != l.Next+1 || len(got.Queue) != n+1 {
				t.Fatalf("Push(%s, %.20q): %s, %d, %d", shown(l), text, shown(got), seq, e)
			}
			if !slices.Equal(got.Queue[:n], l.Queue) || got.Queue[n] != (Frame{seq, text}) {
				t.Fatalf("Push(%s, %.20q): not behind all others: %s", shown(l), text, shown(got))
			}
		}
	}
}

// P10.1: a link that is not right is answered as it is, with 0 and ErrArg, also
// where it has 64 frames or more.
func TestPushOfWrong(t *testing.T) {
	for what, l := range wrongOnes() {
		for _, text := range odd() {
			if got, seq, e := checkPush(t, l, text); seq != 0 || e != api.ErrArg || !same(got, l) {
				t.Errorf("%s: Push(%s, %.20q): %s, %d, %d", what, shown(l), text, shown(got), seq, e)
			}
		}
	}
}

// P10.1: Next at the greatest is ErrArg, however many frames there are, and one
// below it is the last number that is told.
func TestPushAtTheGreatest(t *testing.T) {
	for _, many := range []int{0, 1, 2, 62, 63, 64} {
		queue := framed(run(100, many, 3)...)
		for _, text := range odd() {
			got, seq, e := checkPush(t, Link{top, queue}, text)
			if seq != 0 || e != api.ErrArg || !same(got, Link{top, queue}) {
				t.Errorf("Next %d, %d frames: %s, %d, %d", top, many, shown(got), seq, e)
			}
			got, seq, e = checkPush(t, Link{top - 1, queue}, text)
			if many == 64 {
				if seq != 0 || e != api.ErrBusy || !same(got, Link{top - 1, queue}) {
					t.Errorf("Next %d, %d frames: %s, %d, %d", top-1, many, shown(got), seq, e)
				}
				continue
			}
			if seq != top-1 || e != api.OK || got.Next != top || got.Queue[many] != (Frame{top - 1, text}) {
				t.Errorf("Next %d, %d frames: %s, %d, %d", top-1, many, shown(got), seq, e)
			}
			if last, seq, e := checkPush(t, got, text); seq != 0 || e != api.ErrArg || !same(last, got) {
				t.Errorf("and then: %s, %d, %d", shown(last), seq, e)
			}
		}
	}
}

// P10.1: 63 frames take one more; 64 are ErrBusy, and stay so till one of them
// is told of; more are not right.
func TestPushOfFull(t *testing.T) {
	for _, first := range []int{0, 5, top - 200} {
		l := Link{first + 63, framed(run(first, 63, 1)...)}
		full, seq, e := checkPush(t, l, "the 64th")
		if seq != first+63 || e != api.OK || len(full.Queue) != 64 {
			t.Fatalf("Push on 63: %s, %d, %d", shown(full), seq, e)
		}
		for range 3 {
			got, seq, e := checkPush(t, full, "the 65th")
			if seq != 0 || e != api.ErrBusy || !same(got, full) {
				t.Fatalf("Push on 64: %s, %d, %d", shown(got), seq, e)
			}
		}
		for _, f := range full.Queue {
			got, seq, e := checkPush(t, checkTold(t, full, f.Seq), "new")
			if seq != first+64 || e != api.OK || len(got.Queue) != 64 || got.Queue[63] != (Frame{first + 64, "new"}) {
				t.Fatalf("full, without %d: %s, %d, %d", f.Seq, shown(got), seq, e)
			}
			if _, _, e := checkPush(t, got, "newer"); e != api.ErrBusy {
				t.Fatalf("full again: %d", e)
			}
		}
		if _, _, e := checkPush(t, checkTold(t, full, first+64), "new"); e != api.ErrBusy {
			t.Errorf("full, told of none: %d", e)
		}
	}
	for _, many := range []int{65, 66, 100} {
		l := Link{many, framed(run(0, many, 1)...)}
		for left := many; left > 64; left-- {
			if _, _, e := checkPush(t, l, "new"); e != api.ErrArg {
				t.Errorf("Push on %d: %d", left, e)
			}
			l = checkTold(t, l, 2*(many-left))
		}
		if _, _, e := checkPush(t, l, "new"); e != api.ErrBusy {
			t.Errorf("Push on %d, less those beyond 64: %d", many, e)
		}
	}
}

// P10.1: a frame that is told of is off, wherever it stands, and the others are
// as they were; told of once more, nothing comes of it.
func TestTold(t *testing.T) {
	for _, l := range rightOnes() {
		for i, f := range l.Queue {
			got := checkTold(t, l, f.Seq)
			if got.Next != l.Next || len(got.Queue) != len(l.Queue)-1 {
				t.Fatalf("Told(%s, %d): %s", shown(l), f.Seq, shown(got))
			}
			if !slices.Equal(got.Queue[:i], l.Queue[:i]) || !slices.Equal(got.Queue[i:], l.Queue[i+1:]) {
				t.Fatalf("Told(%s, %d): not the others, in their order: %s", shown(l), f.Seq, shown(got))
			}
			if again := checkTold(t, got, f.Seq); !same(again, got) {
				t.Fatalf("Told(%s, %d), twice: %s", shown(l), f.Seq, shown(again))
			}
		}
	}
}

// P10.1: a number that is not there leaves the link as it is.
func TestToldOfNone(t *testing.T) {
	for _, l := range allOnes() {
		for _, seq := range seqs(l) {
			if slices.ContainsFunc(l.Queue, func(f Frame) bool { return f.Seq == seq }) {
				continue
			}
			if got := checkTold(t, l, seq); !same(got, l) {
				t.Errorf("Told(%s, %d): %s", shown(l), seq, shown(got))
			}
		}
	}
}

// P10.1: a link that is not right loses the frames of the number as well, all
// of them, and its Next stays.
func TestToldOfWrong(t *testing.T) {
	for what, l := range wrongOnes() {
		for _, seq := range seqs(l) {
			got := checkTold(t, l, seq)
			if got.Next != l.Next || slices.ContainsFunc(got.Queue, func(f Frame) bool { return f.Seq == seq }) {
				t.Errorf("%s: Told(%s, %d): %s", what, shown(l), seq, shown(got))
			}
		}
	}
	for _, many := range []int{2, 3, 64, 65, 1000} {
		if got := Told(Link{20, framed(run(7, many, 0)...)}, 7); got.Next != 20 || len(got.Queue) != 0 {
			t.Errorf("%d times 7, Told: %s", many, shown(got))
		}
	}
}

// play does what the steps say: an odd one tells of a number, that is near the
// frames that are there; an even one pushes. What is left is held against a
// record of the frames that were pushed, and the numbers that were told of.
func play(t *testing.T, next int, steps []byte) Link {
	t.Helper()
	l := Link{Next: next}
	var pushed []Frame
	told := map[int]bool{}
	for k, step := range steps {
		if step%2 == 0 {
			text := fmt.Sprintf("step %d\xff", k)
			got, seq, e := checkPush(t, l, text)
			if e == api.OK {
				pushed = append(pushed, Frame{seq, text})
				delete(told, seq)
			}
			l = got
		} else {
			seq := l.Next - 67 + int(step/2)
			told[seq] = true
			l = checkTold(t, l, seq)
		}
		pushed = slices.DeleteFunc(pushed, func(f Frame) bool { return told[f.Seq] })
		if !slices.Equal(l.Queue, pushed) || l.Next < next {
			t.Fatalf("begun at %d, step %d: %s, not %s", next, k, shown(l), shown(Link{l.Next, pushed}))
		}
	}
	return l
}

// mixedBytes are so many, always the same ones for a seed, of which about every
// fourth to every second is odd.
func mixedBytes(seed uint64, many int, pushes int) []byte {
	steps := make([]byte, many)
	for i := range steps {
		seed = seed*6364136223846793005 + 1442695040888963407
		steps[i] = byte(seed >> 40)
		if int(seed>>50)%4 < pushes {
			steps[i] &^= 1
		}
	}
	return steps
}

// P10.2: whatever is pushed and told of, in any order, just what was not told
// of is left, in its order. A number that is told of ahead of its push counts
// not.
func TestPlays(t *testing.T) {
	for _, next := range []int{0, 1, 17, 1000, top - 300, top - 64, top - 20, top - 1, top, top + 1, -1} {
		for pushes := range 4 {
			play(t, next, mixedBytes(uint64(10+pushes), 900, pushes))
		}
	}
}

// P10.2: 64 frames, told of in many orders, one by one.
func TestOrders(t *testing.T) {
	var full Link
	for i := range 64 {
		full, _, _ = Push(full, strconv.Itoa(i))
	}
	for step := 1; step < 64; step += 2 {
		l := full
		told := map[int]bool{}
		for k := range 64 {
			seq := (k*step + 11) % 64
			l = checkTold(t, l, seq)
			told[seq] = true
			var left []Frame
			for i := range 64 {
				if !told[i] {
					left = append(left, Frame{i, strconv.Itoa(i)})
				}
			}
			if !same(l, Link{64, left}) {
				t.Fatalf("by steps of %d, %d told of: %s", step, k+1, shown(l))
			}
		}
		if again, seq, e := checkPush(t, l, "again"); seq != 64 || e != api.OK || !same(again, Link{65, []Frame{{64, "again"}}}) {
			t.Fatalf("all told of: %s, %d, %d", shown(again), seq, e)
		}
	}
}

// P10.2: what is pushed and told of at once never fills a link, and no number is
// given twice.
func TestNumbersGoOn(t *testing.T) {
	var l Link
	for i := range 1000 {
		got, seq, e := Push(l, "x")
		if seq != i || e != api.OK || got.Next != i+1 {
			t.Fatalf("the %d. Push: %s, %d, %d", i, shown(got), seq, e)
		}
		if l = Told(got, seq); !same(l, Link{i + 1, nil}) {
			t.Fatalf("the %d. Told: %s", i, shown(l))
		}
	}
}

// calls are those of which the answered list could share memory with l's.
func calls(l Link) map[string]func() Link {
	all := map[string]func() Link{
		"Push":            func() Link { got, _, _ := Push(l, "push"); return got },
		"Push of nothing": func() Link { got, _, _ := Push(l, ""); return got },
	}
	numbers := []int{-1, l.Next, l.Next + 1, math.MinInt, math.MaxInt}
	if n := len(l.Queue); n > 0 {
		numbers = append(numbers, l.Queue[0].Seq, l.Queue[n/2].Seq, l.Queue[n-1].Seq, l.Queue[n-1].Seq+1)
	}
	for _, seq := range numbers {
		all["Told of "+strconv.Itoa(seq)] = func() Link { return Told(l, seq) }
	}
	return all
}

// spoil writes into all memory that a list can reach.
func spoil(queue []Frame) {
	queue = queue[:cap(queue)]
	for i := range queue {
		queue[i] = Frame{-7, "spoiled"}
	}
}

// R1: what is handed in stays as it is, up to the end of its memory, and an
// answer shares none of it: neither is changed by what is written into the
// other. R4: the room behind the frames counts not.
func TestLinksStay(t *testing.T) {
	for _, l := range allOnes() {
		tight := calls(Link{l.Next, slices.Clip(slices.Clone(l.Queue))})
		for _, room := range []int{0, 1, 2, 70} {
			memory := slices.Concat(l.Queue, framed(run(-900, room, 1)...))
			memory = memory[: len(l.Queue)+room : len(l.Queue)+room]
			was := slices.Clone(memory)
			handed := Link{l.Next, memory[:len(l.Queue)]}
			if Right(handed) != wantRight(l) {
				t.Fatalf("Right(%s), room for %d: %v", shown(l), room, !wantRight(l))
			}
			for what, call := range calls(handed) {
				got := call()
				if !slices.Equal(memory, was) {
					t.Fatalf("%s, %s, room for %d: the memory is changed", what, shown(l), room)
				}
				if alike := tight[what](); !same(got, alike) {
					t.Fatalf("%s, %s, room for %d: %s, without it %s", what, shown(l), room, shown(got), shown(alike))
				}
				kept := slices.Clone(got.Queue)
				spoil(memory)
				if !slices.Equal(got.Queue, kept) {
					t.Fatalf("%s, %s, room for %d: the answer changes with l", what, shown(l), room)
				}
				copy(memory, was)
				spoil(got.Queue)
				if !slices.Equal(memory, was) {
					t.Fatalf("%s, %s, room for %d: l changes with the answer", what, shown(l), room)
				}
			}
		}
	}
}

// R1: a second call with the same link, or with what the first one answered,
// leaves that as it was.
func TestAnswersStay(t *testing.T) {
	for _, l := range allOnes() {
		roomy := Link{l.Next, append(make([]Frame, 0, len(l.Queue)+9), l.Queue...)}
		for what, call := range calls(roomy) {
			first := call()
			kept := copied(first)
			for then, other := range calls(roomy) {
				spoil(other().Queue)
				if !same(first, kept) {
					t.Fatalf("%s, then %s, of %s: %s, not %s", what, then, shown(l), shown(first), shown(kept))
				}
			}
			for then, other := range calls(first) {
				spoil(other().Queue)
				if !same(first, kept) {
					t.Fatalf("%s, then %s of its answer, of %s: %s, not %s", what, then, shown(l), shown(first), shown(kept))
				}
			}
		}
	}
	l := Link{0, make([]Frame, 0, 8)}
	a, _, _ := Push(l, "a")
	b, _, _ := Push(l, "b")
	ax, _, _ := Push(a, "x")
	ay, _, _ := Push(a, "y")
	for _, c := range []struct{ got, want Link }{
		{a, Link{1, []Frame{{0, "a"}}}}, {b, Link{1, []Frame{{0, "b"}}}},
		{ax, Link{2, []Frame{{0, "a"}, {1, "x"}}}}, {ay, Link{2, []Frame{{0, "a"}, {1, "y"}}}},
	} {
		if !same(c.got, c.want) {
			t.Errorf("%s, not %s", shown(c.got), shown(c.want))
		}
	}
}

func FuzzLink(f *testing.F) {
	f.Add(0, []byte{0, 0, 131, 133, 2})
	f.Add(top-3, []byte{0, 2, 4, 6, 133, 131})
	f.Add(-1, []byte{0, 1, 133})
	f.Add(0, slices.Concat(make([]byte, 66), []byte{3, 5, 7, 133, 0, 0, 0, 0, 131}))
	f.Fuzz(func(t *testing.T, next int, steps []byte) {
		if next < -top || next > 2*top || len(steps) > 1000 {
			t.Skip()
		}
		play(t, next, steps)
		var numbers []int
		for _, d := range steps {
			numbers = append(numbers, next-200+int(d))
		}
		sorted := slices.Sorted(slices.Values(numbers))
		for _, some := range [][]int{numbers, sorted, slices.Compact(slices.Clone(sorted))} {
			for _, l := range []Link{{next, framed(some...)}, {next, framed(some[:min(len(some), 64)]...)}} {
				if Right(l) != wantRight(l) {
					t.Fatalf("Right(%s): %v", shown(l), Right(l))
				}
				checkPush(t, l, string(steps))
				for _, seq := range some[:min(len(some), 9)] {
					checkTold(t, l, seq)
					checkTold(t, l, seq+1)
				}
			}
		}
	})
}
