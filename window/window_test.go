package window

import (
	"fmt"
	"math"
	"slices"
	"testing"

	"switchboard/api"
)

const top = 1<<31 - 1

// run is so many numbers from the first one on, each by a step above the last.
func run(first, many, step int) []int {
	l := make([]int, many)
	for i := range l {
		l[i] = first + i*step
	}
	return l
}

// shown keeps what a test says of a window short.
func shown(w Window) string {
	if len(w.Seen) > 8 {
		return fmt.Sprintf("{%d %d.. (%d, the last %d)}", w.Low, w.Seen[:6], len(w.Seen), w.Seen[len(w.Seen)-1])
	}
	return fmt.Sprintf("{%d %d}", w.Low, w.Seen)
}

func same(v, w Window) bool {
	return v.Low == w.Low && slices.Equal(v.Seen, w.Seen)
}

// extremes are numbers around which something could turn.
func extremes() []int {
	return []int{
		math.MinInt, math.MinInt + 1, -1 << 32, math.MinInt32, math.MinInt32 + 1, -33, -32, -2, -1,
		0, 1, 2, 31, 32, 33, 34, 64, top - 34, top - 33, top - 32, top - 31, top - 1, top, top + 1, top + 2,
		1 << 32, 1<<32 + 1, math.MaxInt - 1, math.MaxInt,
	}
}

// rightOnes are windows that are right: none, one, 31 and 32 numbers, with and
// without gaps, Low ahead of them and among them, at both ends.
func rightOnes() []Window {
	all := []Window{{}, {0, []int{}}, {0, make([]int, 0, 9)}, {top, nil}, {top, []int{top}}, {top - 1, []int{top}}, {0, []int{0}}, {0, []int{top}}, {0, []int{0, top}}, {7, []int{7, 8, 9, 11}}}
	for _, low := range []int{0, 1, 5, 1000, top - 200, top - 64} {
		for _, many := range []int{1, 2, 3, 30, 31, 32} {
			for _, ahead := range []int{0, 1, 2} {
				all = append(all, Window{low, run(low+ahead, many, 1)}, Window{low, run(low+ahead, many, 2)})
			}
		}
	}
	for _, many := range []int{1, 2, 30, 31, 32} {
		all = append(all, Window{top - 40, run(top-many+1, many, 1)}, Window{top - many + 1, run(top-many+1, many, 1)}, Window{top - 70, run(top-2*many+2, many, 2)})
		all = append(all, Window{0, run(100, many, 1000)}, Window{0, run(top-1000*(many-1), many, 1000)})
	}
	return all
}

// wrongOnes are windows that are wrong, each in one way.
func wrongOnes() map[string]Window {
	all := map[string]Window{
		"33":                      {0, run(10, 33, 1)},
		"33 with gaps":            {0, run(10, 33, 2)},
		"33 from Low on":          {10, run(10, 33, 1)},
		"33 that are all alike":   {0, run(10, 33, 0)},
		"1000":                    {0, run(10, 1000, 3)},
		"one below Low":           {5, []int{4}},
		"one below Low, others":   {5, []int{4, 5, 6}},
		"0 below Low":             {1, []int{0}},
		"below 0":                 {0, []int{-1}},
		"the least int":           {0, []int{math.MinInt}},
		"the least int, others":   {0, []int{math.MinInt, 0, 1}},
		"one below the greatest":  {top, []int{top - 1}},
		"twice":                   {0, []int{5, 5}},
		"twice at Low":            {5, []int{5, 5}},
		"twice, the last":         {0, []int{5, 6, 7, 7}},
		"twice, the first":        {0, []int{5, 5, 6, 7}},
		"twice the greatest":      {0, []int{top, top}},
		"falling":                 {0, []int{6, 5}},
		"falling at the end":      {0, []int{5, 6, 8, 7}},
		"falling in between":      {0, []int{5, 8, 7, 9}},
		"falling below Low":       {5, []int{6, 4}},
		"falling to the least":    {0, []int{5, math.MinInt}},
		"32 that fall":            {0, run(100, 32, -1)},
		"one too great":           {0, []int{top + 1}},
		"the last one too great":  {0, []int{5, top, top + 1}},
		"the 32nd too great":      {0, append(run(5, 31, 1), top+1)},
		"the greatest int":        {0, []int{math.MaxInt}},
		"two of the greatest int": {0, []int{math.MaxInt - 1, math.MaxInt}},
		"over the greatest":       {0, []int{math.MaxInt, math.MinInt}},
		"2^32 more":               {0, []int{1<<32 + 5}},
	}
	for _, low := range []int{math.MinInt, math.MinInt + 1, -1 << 32, math.MinInt32, -2, -1, top + 1, top + 2, 1 << 32, 1<<32 + 5, math.MaxInt - 1, math.MaxInt} {
		all[fmt.Sprintf("Low %d", low)] = Window{low, nil}
		all[fmt.Sprintf("Low %d, and 5", low)] = Window{low, []int{5}}
		all[fmt.Sprintf("Low %d, and itself", low)] = Window{low, []int{low}}
		all[fmt.Sprintf("Low %d, and the greatest", low)] = Window{low, []int{top}}
	}
	return all
}

// wantRight and wantAccept are P9.1, over a set instead of a list.
func wantRight(w Window) bool {
	rising := slices.IsSorted(w.Seen) && len(slices.Compact(slices.Clone(w.Seen))) == len(w.Seen)
	outside := slices.ContainsFunc(w.Seen, func(n int) bool { return n < w.Low || n > 2147483647 })
	return w.Low >= 0 && w.Low <= 2147483647 && len(w.Seen) <= 32 && rising && !outside
}

func wantAccept(w Window, n int) (Window, bool) {
	if !wantRight(w) || n > 2147483647 || n < w.Low || slices.Contains(w.Seen, n) {
		return w, false
	}
	low, seen := w.Low, map[int]bool{n: true}
	for _, m := range w.Seen {
		seen[m] = true
	}
	for len(seen) > 32 {
		least := math.MaxInt
		for m := range seen {
			least = min(least, m)
		}
		delete(seen, least)
		low = least + 1
	}
	for seen[low] {
		delete(seen, low)
		low++
	}
	var left []int
	for m := range seen {
		left = append(left, m)
	}
	slices.Sort(left)
	return Window{low, left}, true
}

// checkAccept holds one call against the chapter, and what was handed in
// against what it was.
func checkAccept(t *testing.T, w Window, n int) (Window, bool) {
	t.Helper()
	was := Window{w.Low, slices.Clone(w.Seen)}
	got, ok := Accept(w, n)
	want, fresh := wantAccept(was, n)
	if ok != fresh || !same(got, want) {
		t.Fatalf("Accept(%s, %d): %s, %v, not %s, %v", shown(was), n, shown(got), ok, shown(want), fresh)
	}
	if !same(w, was) {
		t.Fatalf("Accept(%s, %d): w is now %s", shown(was), n, shown(w))
	}
	if ok && (len(got.Seen) > 32 || !wantRight(Window{min(got.Low, top), got.Seen})) {
		t.Fatalf("Accept(%s, %d): not rising, or too many: %s", shown(was), n, shown(got))
	}
	return got, ok
}

// steps are numbers that something could come of: around Low, around each that
// was Seen, and those around which something could turn.
func steps(w Window) []int {
	all := extremes()
	for d := -2; d <= 2; d++ {
		all = append(all, w.Low+d)
		for _, n := range w.Seen {
			all = append(all, n+d)
		}
	}
	return all
}

// P9.1: the chapter's example, and windows that are written out.
func TestWrittenOut(t *testing.T) {
	first, ok := Accept(Window{}, 0)
	if !ok || !same(first, Window{1, nil}) {
		t.Errorf("0: %s, %v", shown(first), ok)
	}
	if again, ok := Accept(first, 0); ok || !same(again, first) {
		t.Errorf("0, 0: %s, %v", shown(again), ok)
	}
	for _, c := range []struct {
		w    Window
		n    int
		want Window
		ok   bool
	}{
		{Window{}, 1, Window{0, []int{1}}, true},
		{Window{}, top, Window{0, []int{top}}, true},
		{Window{}, top + 1, Window{}, false},
		{Window{}, -1, Window{}, false},
		{Window{5, nil}, 4, Window{5, nil}, false},
		{Window{5, nil}, 5, Window{6, nil}, true},
		{Window{5, nil}, 6, Window{5, []int{6}}, true},
		{Window{5, []int{7, 9}}, 6, Window{5, []int{6, 7, 9}}, true},
		{Window{5, []int{7, 9}}, 7, Window{5, []int{7, 9}}, false},
		{Window{5, []int{7, 9}}, 8, Window{5, []int{7, 8, 9}}, true},
		{Window{5, []int{7, 9}}, 9, Window{5, []int{7, 9}}, false},
		{Window{5, []int{7, 9}}, 10, Window{5, []int{7, 9, 10}}, true},
		{Window{5, []int{7, 9}}, 5, Window{6, []int{7, 9}}, true},
		{Window{5, []int{6, 7, 9}}, 5, Window{8, []int{9}}, true},
		{Window{5, []int{6, 7, 8}}, 5, Window{9, nil}, true},
		{Window{5, []int{5, 6, 9}}, 20, Window{7, []int{9, 20}}, true},
		{Window{5, []int{5, 6, 8}}, 7, Window{9, nil}, true},
		{Window{5, []int{5, 6, 8}}, 5, Window{5, []int{5, 6, 8}}, false},
		{Window{5, []int{5, 6, 8}}, 4, Window{5, []int{5, 6, 8}}, false},
		{Window{top, nil}, top, Window{top + 1, nil}, true},
		{Window{top - 1, []int{top}}, top - 1, Window{top + 1, nil}, true},
		{Window{top + 1, nil}, top, Window{top + 1, nil}, false},
		{Window{top + 1, nil}, top + 1, Window{top + 1, nil}, false},
		{Window{-1, nil}, 0, Window{-1, nil}, false},
		{Window{0, []int{5, 5}}, 0, Window{0, []int{5, 5}}, false},
	} {
		got, ok := Accept(c.w, c.n)
		if ok != c.ok || !same(got, c.want) {
			t.Errorf("Accept(%s, %d): %s, %v, not %s, %v", shown(c.w), c.n, shown(got), ok, shown(c.want), c.ok)
		}
	}
}

// P9.1: windows that are right.
func TestRight(t *testing.T) {
	for _, w := range rightOnes() {
		if !wantRight(w) {
			t.Fatalf("the test's own: %s", shown(w))
		}
		if !Right(w) {
			t.Errorf("Right(%s): false", shown(w))
		}
	}
}

// P9.1: windows that are wrong, each in one way.
func TestWrong(t *testing.T) {
	for what, w := range wrongOnes() {
		if wantRight(w) {
			t.Fatalf("the test's own: %s: %s", what, shown(w))
		}
		if Right(w) {
			t.Errorf("%s: Right(%s): true", what, shown(w))
		}
	}
}

// P9.1: each number that something could turn around, as Low and as one, two
// and three that were Seen.
func TestRightOfExtremes(t *testing.T) {
	check := func(w Window) {
		if got, want := Right(w), wantRight(w); got != want {
			t.Errorf("Right(%s): %v", shown(w), got)
		}
	}
	for _, low := range extremes() {
		check(Window{low, nil})
		check(Window{low, []int{}})
		for _, a := range extremes() {
			check(Window{low, []int{a}})
			for _, b := range extremes() {
				check(Window{low, []int{a, b}})
				check(Window{low, []int{a, 40, b}})
			}
		}
	}
}

// P9.1: how many may be Seen.
func TestHowMany(t *testing.T) {
	for many, right := range map[int]bool{0: true, 1: true, 2: true, 31: true, 32: true, 33: false, 34: false, 64: false, 65: false, 256: false, 288: false} {
		for _, w := range []Window{{0, run(0, many, 1)}, {0, run(1, many, 2)}, {3, run(3, many, 5)}} {
			if Right(w) != right {
				t.Errorf("%d: Right(%s): %v", many, shown(w), !right)
			}
		}
	}
	if api.Window != 32 || api.Top != top {
		t.Errorf("the limits: %d, %d", api.Window, api.Top)
	}
}

// P9.1: a window that is wrong is answered as it is, and accepts nothing.
func TestAcceptOfWrong(t *testing.T) {
	for what, w := range wrongOnes() {
		for _, n := range steps(w) {
			if got, ok := checkAccept(t, w, n); ok || !same(got, w) {
				t.Errorf("%s: Accept(%s, %d): %s, %v", what, shown(w), n, shown(got), ok)
			}
		}
	}
}

// P9.1: a number that is not fresh, or too great, leaves the window as it is,
// also where Low is among Seen.
func TestAcceptOfNotFresh(t *testing.T) {
	for _, w := range rightOnes() {
		refused := append([]int{w.Low - 1, w.Low - 2, -1, -33, math.MinInt32, math.MinInt, top + 1, top + 2, 1 << 32, math.MaxInt}, w.Seen...)
		if w.Low > 0 {
			refused = append(refused, 0)
		}
		for _, n := range refused {
			if got, ok := checkAccept(t, w, n); ok || !same(got, w) {
				t.Errorf("Accept(%s, %d): %s, %v", shown(w), n, shown(got), ok)
			}
		}
	}
}

// P9.1: numbers at every place of windows that are right.
func TestAccept(t *testing.T) {
	for _, w := range rightOnes() {
		for _, n := range steps(w) {
			if got, ok := checkAccept(t, w, n); ok && (got.Low <= n) == !slices.Contains(got.Seen, n) {
				t.Errorf("Accept(%s, %d): it is fresh: %s", shown(w), n, shown(got))
			}
		}
	}
}

// P9.1: a window of 32 takes one more: the least goes off, also where that is
// the number that comes, and Low is one more than it.
func TestFullWindow(t *testing.T) {
	full := Window{2, run(10, 32, 2)}
	behind := append(run(12, 31, 2), 100)
	between := slices.Insert(run(12, 31, 2), 1, 13)
	for _, c := range []struct {
		n    int
		want Window
	}{
		{100, Window{11, behind}},
		{13, Window{11, between}},
		{top, Window{11, append(run(12, 31, 2), top)}},
		{9, Window{11, run(12, 31, 2)}},
		{8, Window{9, run(10, 32, 2)}},
		{2, Window{3, run(10, 32, 2)}},
		{11, Window{13, run(14, 30, 2)}},
	} {
		if got, ok := checkAccept(t, full, c.n); !ok || !same(got, c.want) {
			t.Errorf("Accept(%s, %d): %s, %v, not %s", shown(full), c.n, shown(got), ok, shown(c.want))
		}
	}
}

// P9.1: a run of numbers from Low on goes off, one behind the other, whether
// Low comes up to it by a number that fills its gap or by one that goes off.
func TestRunsGoOff(t *testing.T) {
	for many := range 33 {
		gap := Window{40, run(41, many, 1)}
		want := Window{41 + many, nil}
		if got, ok := checkAccept(t, gap, 40); !ok || !same(got, want) {
			t.Errorf("%d behind a gap: %s, %v", many, shown(got), ok)
		}
	}
	for _, c := range []struct {
		w    Window
		n    int
		want Window
	}{
		{Window{0, run(10, 32, 1)}, 100, Window{42, []int{100}}},
		{Window{0, run(10, 32, 1)}, 42, Window{43, nil}},
		{Window{0, run(10, 32, 1)}, 9, Window{42, nil}},
		{Window{0, run(10, 32, 1)}, 8, Window{9, run(10, 32, 1)}},
		{Window{0, run(10, 32, 1)}, 0, Window{1, run(10, 32, 1)}},
		{Window{10, run(10, 32, 1)}, 42, Window{43, nil}},
		{Window{10, run(10, 32, 1)}, 44, Window{42, []int{44}}},
		{Window{0, append(run(1, 16, 1), run(18, 16, 1)...)}, 17, Window{34, nil}},
		{Window{0, append(run(1, 16, 1), run(19, 16, 1)...)}, 0, Window{17, run(19, 16, 1)}},
		{Window{0, append(run(1, 15, 1), run(18, 15, 1)...)}, 16, Window{0, append(run(1, 16, 1), run(18, 15, 1)...)}},
		{Window{top - 33, run(top-31, 32, 1)}, top - 32, Window{top + 1, nil}},
		{Window{top - 32, run(top-31, 32, 1)}, top - 32, Window{top + 1, nil}},
		{Window{top - 31, run(top-31, 31, 1)}, top, Window{top + 1, nil}},
		{Window{0, append([]int{5}, run(top-30, 31, 1)...)}, top - 31, Window{6, run(top-31, 32, 1)}},
		{Window{0, append([]int{top - 32}, run(top-30, 31, 1)...)}, top - 31, Window{top + 1, nil}},
	} {
		if got, ok := checkAccept(t, c.w, c.n); !ok || !same(got, c.want) {
			t.Errorf("Accept(%s, %d): %s, %v, not %s", shown(c.w), c.n, shown(got), ok, shown(c.want))
		}
	}
}

// P9.1: at the greatest numbers Low comes to 2^31, and then nothing is accepted.
func TestTheGreatest(t *testing.T) {
	w := Window{top - 50, nil}
	for n := top; n >= top-50; n-- {
		v, ok := checkAccept(t, w, n)
		if fresh := n >= w.Low; ok != fresh {
			t.Fatalf("Accept(%s, %d): %v", shown(w), n, ok)
		}
		w = v
	}
	if !same(w, Window{top + 1, nil}) || Right(w) {
		t.Errorf("at the end: %s, %v", shown(w), Right(w))
	}
	for _, n := range extremes() {
		if v, ok := checkAccept(t, w, n); ok || !same(v, w) {
			t.Errorf("behind the end: Accept(%s, %d): %s, %v", shown(w), n, shown(v), ok)
		}
	}
}

// play hands the numbers in, one by one, and wants none accepted twice, and of
// those that are not accepted each either accepted before or below Low.
func play(t *testing.T, w Window, numbers []int) Window {
	t.Helper()
	came := map[int]bool{}
	for _, n := range w.Seen {
		came[n] = true
	}
	for _, n := range numbers {
		v, ok := checkAccept(t, w, n)
		if ok && came[n] {
			t.Fatalf("%d accepted twice: %s, then %s", n, shown(w), shown(v))
		}
		if !ok && wantRight(w) && n <= top && n >= w.Low && !came[n] {
			t.Fatalf("%d is fresh: %s", n, shown(w))
		}
		if v.Low < w.Low {
			t.Fatalf("%d: Low goes down: %s, then %s", n, shown(w), shown(v))
		}
		if again, ok := checkAccept(t, v, n); ok || !same(again, v) {
			t.Fatalf("%d at once again: %s, then %s, %v", n, shown(v), shown(again), ok)
		}
		came[n] = came[n] || ok
		w = v
	}
	return w
}

// P9.2: in whichever order numbers come, and come again, none is accepted twice.
func TestNoneTwice(t *testing.T) {
	for _, many := range []int{1, 2, 31, 32, 33, 34, 64, 65, 66, 100, 300} {
		for _, step := range []int{1, 2, 3, 40} {
			up := run(5, many, step)
			down := slices.Clone(up)
			slices.Reverse(down)
			evens, odds := run(5, many, 2*step), run(5+step, many, 2*step)
			for _, order := range [][]int{
				slices.Concat(up, up, down), slices.Concat(down, down, up), slices.Concat(evens, odds, evens, odds),
				slices.Concat(odds, evens, up, down), slices.Concat(up, []int{0, 1, 2, 3, 4}, up), slices.Concat([]int{top, 0, top - 1}, down, up, []int{top, 0, top - 1}),
			} {
				play(t, Window{}, order)
				play(t, Window{6, []int{6, 8}}, order)
			}
		}
	}
	var back []int
	for n := range 200 {
		back = append(back, n^3, n^7, max(n-40, 0), n, n^31)
	}
	play(t, Window{}, back)
}

// P9.2: a number that went off is not accepted again, and one that was given up
// before it came is not accepted at all.
func TestGivenUp(t *testing.T) {
	w := play(t, Window{}, run(10, 33, 2))
	if !same(w, Window{11, run(12, 32, 2)}) {
		t.Fatalf("33 with gaps: %s", shown(w))
	}
	for n := range 11 {
		if v, ok := checkAccept(t, w, n); ok || !same(v, w) {
			t.Errorf("%d was given up: %s, %v", n, shown(v), ok)
		}
	}
	full := Window{0, run(10, 32, 2)}
	least, ok := Accept(full, 4)
	if !ok || !same(least, Window{5, run(10, 32, 2)}) {
		t.Fatalf("4, and 32 above: %s, %v", shown(least), ok)
	}
	for n := range 5 {
		if v, ok := checkAccept(t, least, n); ok || !same(v, least) {
			t.Errorf("%d was given up with 4: %s, %v", n, shown(v), ok)
		}
	}
	if v, ok := checkAccept(t, least, 5); !ok || v.Low != 6 {
		t.Errorf("5 was not given up: %s, %v", shown(v), ok)
	}
}

// calls are the numbers of which the answered list could share memory with w's.
func calls(w Window) []int {
	all := []int{w.Low - 1, w.Low, w.Low + 1, top, top + 1, math.MinInt, math.MaxInt}
	for _, n := range w.Seen {
		all = append(all, n-1, n, n+1)
	}
	return all
}

// spoil writes into all memory that a list can reach.
func spoil(l []int) {
	l = l[:cap(l)]
	for i := range l {
		l[i] = -7
	}
}

// R1: what is handed in stays as it is, up to the end of its memory, and an
// answer shares none of it: neither is changed by what is written into the
// other. R4: the room behind the numbers counts not.
func TestWindowsStay(t *testing.T) {
	windows := rightOnes()
	for _, w := range wrongOnes() {
		windows = append(windows, w)
	}
	for _, w := range windows {
		for _, room := range []int{0, 1, 2, 40} {
			memory := append(slices.Clone(w.Seen), run(-900, room, 1)...)
			memory = memory[:len(w.Seen)+room]
			was := slices.Clone(memory)
			handed := Window{w.Low, memory[:len(w.Seen)]}
			for _, n := range calls(w) {
				got, ok := checkAccept(t, handed, n)
				Right(handed)
				if !slices.Equal(memory, was) {
					t.Fatalf("Accept(%s, %d), room for %d: the memory is now %d", shown(w), n, room, memory)
				}
				kept := slices.Clone(got.Seen)
				spoil(memory)
				if !slices.Equal(got.Seen, kept) {
					t.Fatalf("Accept(%s, %d), %v, room for %d: the answer changes with w", shown(w), n, ok, room)
				}
				copy(memory, was)
				spoil(got.Seen)
				if !slices.Equal(memory, was) {
					t.Fatalf("Accept(%s, %d), %v, room for %d: w changes with the answer", shown(w), n, ok, room)
				}
			}
		}
	}
}

// R1: a second call with the same window leaves what the first one answered as
// it was.
func TestAnswersStay(t *testing.T) {
	for _, w := range rightOnes() {
		roomy := Window{w.Low, append(make([]int, 0, 80), w.Seen...)}
		for _, n := range calls(w) {
			first, _ := Accept(roomy, n)
			kept := slices.Clone(first.Seen)
			for _, m := range calls(w) {
				second, _ := Accept(roomy, m)
				third, _ := Accept(first, m)
				spoil(second.Seen)
				spoil(third.Seen)
				if !slices.Equal(first.Seen, kept) {
					t.Fatalf("Accept(%s, %d), then %d: %d, not %d", shown(w), n, m, first.Seen, kept)
				}
			}
		}
	}
}

// P9.1, P9.2: long plays, always the same ones, over spans in which numbers come
// early, late, and again.
func TestPlays(t *testing.T) {
	mixed := uint64(9)
	for _, span := range []int{3, 16, 33, 50, 70, 200, 5000, top} {
		for _, low := range []int{0, 17, top - 300} {
			var numbers []int
			for k := range 1500 {
				mixed = mixed*6364136223846793005 + 1442695040888963407
				numbers = append(numbers, low+k/5-3+int(mixed>>33)%span)
			}
			play(t, Window{Low: low}, numbers)
		}
	}
}

func FuzzWindow(f *testing.F) {
	f.Add(0, []byte{1, 1, 3, 0, 0, 2})
	f.Add(top-20, []byte{20, 21, 22, 0, 5, 19, 18})
	f.Add(-1, []byte{0, 1})
	f.Add(100, []byte("wide enough that more than thirty-two numbers come, and some of them again"))
	f.Fuzz(func(t *testing.T, low int, offsets []byte) {
		if low < -top || low > 2*top || len(offsets) > 2000 {
			t.Skip()
		}
		var numbers []int
		for k, d := range offsets {
			numbers = append(numbers, low+k/2-2+int(d))
		}
		play(t, Window{Low: low}, numbers)
		slices.Sort(numbers)
		for _, seen := range [][]int{numbers, slices.Compact(slices.Clone(numbers))} {
			for _, w := range []Window{{low, seen}, {low, seen[:min(len(seen), 32)]}} {
				if Right(w) != wantRight(w) {
					t.Fatalf("Right(%s): %v", shown(w), Right(w))
				}
				for _, n := range calls(w) {
					checkAccept(t, w, n)
				}
			}
		}
	})
}
