package port

import (
	"encoding/binary"
	"fmt"
	"hash/crc32"
	"math"
	"slices"
	"strconv"
	"strings"
	"testing"

	"switchboard/api"
	"switchboard/link"
	"switchboard/window"
)

const top = 1<<31 - 1

// mixed gives numbers that are always the same ones for a seed.
type mixed uint64

func (m *mixed) next(below int) int {
	*m = *m*6364136223846793005 + 1442695040888963407
	return int(uint64(*m)>>33) % below
}

// bytes are so many, of a few that are alike more often than not.
func (m *mixed) bytes(many int) string {
	all := make([]byte, many)
	span := 1 + m.next(256)
	for i := range all {
		all[i] = byte(m.next(span))
	}
	return string(all)
}

// order is each place below many, once.
func (m *mixed) order(many int) []int {
	var all []int
	for i := range many {
		all = slices.Insert(all, m.next(i+1), i)
	}
	return all
}

// extremes are numbers around which something could turn.
func extremes() []int {
	return []int{
		math.MinInt, math.MinInt + 1, -1 << 32, -1<<32 + 1, math.MinInt32 - 1, math.MinInt32, -top, -65, -33, -32, -31, -2, -1,
		0, 1, 2, 3, 30, 31, 32, 33, 34, 62, 63, 64, 65, 127, 128, 255, 256, 257, 65535, 65536, 1<<24 - 1, 1 << 24,
		top - 34, top - 33, top - 32, top - 31, top - 2, top - 1, top, top + 1, top + 2,
		1<<32 - 2, 1<<32 - 1, 1 << 32, 1<<32 + 1, 1<<32 + 5, 1 << 62, math.MaxInt - 1, math.MaxInt,
	}
}

// odd are texts in which a byte could go astray.
func odd() []string {
	return []string{
		"", "x", " ", "A", "D", "\x00", "\x00\x00", "\x00\x00\x00\x00", "a\x00b", "\xff", "\xff\xff\xff\xff", "\xff\xfe\x80", "\xc3", "\n", "ä", "日本",
		"D\x00\x00\x00\x00", "four", "\x1c\xdf\x44\x21", strings.Repeat("y", 64), strings.Repeat("z", 65), strings.Repeat("\x00long\xff", 50),
	}
}

// run is so many numbers from the first one on, each by a step above the last.
func run(first, many, step int) []int {
	l := make([]int, many)
	for i := range l {
		l[i] = first + i*step
	}
	return l
}

// framed is a frame for each number, no two texts alike.
func framed(numbers ...int) []link.Frame {
	queue := make([]link.Frame, len(numbers))
	for i, n := range numbers {
		queue[i] = link.Frame{Seq: n, Text: "text " + strconv.Itoa(i)}
	}
	return queue
}

func linked(next int, numbers ...int) link.Link {
	return link.Link{Next: next, Queue: framed(numbers...)}
}

func seen(low int, numbers ...int) window.Window {
	return window.Window{Low: low, Seen: numbers}
}

// freeLinks are right ones that Send pushes, busyLinks right ones whose first
// number is 32 or more below Next.
func freeLinks() []link.Link {
	all := []link.Link{
		{}, {Queue: []link.Frame{}}, {Queue: make([]link.Frame, 0, 9)}, {Next: 1}, {Next: 31}, {Next: 32}, {Next: 33}, {Next: 1000}, {Next: top - 1},
		linked(1, 0), linked(2, 0), linked(2, 1), linked(2, 0, 1), linked(31, 0), linked(31, run(0, 31, 1)...), linked(30, 0, 29),
		linked(9, 3, 5, 7), linked(1000, 969), linked(1000, run(969, 31, 1)...), linked(1000, 969, 999), linked(1000, 999),
		linked(top-1, top-2), linked(top-1, top-32), linked(top-1, run(top-32, 31, 1)...), linked(31, run(0, 16, 2)...),
	}
	return append(all, link.Link{Next: 4, Queue: []link.Frame{{Seq: 0}, {Seq: 2, Text: "\x00"}, {Seq: 3, Text: "\xff\xfe"}}})
}

func busyLinks() []link.Link {
	return []link.Link{
		linked(32, 0), linked(32, run(0, 32, 1)...), linked(33, 0), linked(33, run(0, 33, 1)...), linked(33, run(0, 32, 1)...), linked(1000, 968), linked(1000, 0),
		linked(1000, 967), linked(32, 0, 31), linked(64, run(0, 63, 1)...), linked(64, run(0, 64, 1)...), linked(65, run(0, 64, 1)...), linked(65, run(1, 64, 1)...),
		linked(top-1, 0), linked(top-1, top-33), linked(top-1, top-34), linked(top-1, run(top-65, 64, 1)...), linked(1000, run(10, 64, 2)...),
	}
}

// rightLinks are free, busy, and, of the greatest Next, refused all the same.
func rightLinks() []link.Link {
	all := append(freeLinks(), busyLinks()...)
	return append(all, lastLinks()...)
}

func lastLinks() []link.Link {
	return []link.Link{
		{Next: top}, {Next: top, Queue: []link.Frame{}}, linked(top, 0), linked(top, top-1), linked(top, top-31), linked(top, top-32), linked(top, top-33),
		linked(top, run(top-32, 32, 1)...), linked(top, run(top-64, 64, 1)...),
	}
}

// wrongLinks are wrong each in one way, of few and of many frames, so that what
// counts from the first one on would say both that it is busy and that not.
func wrongLinks() []link.Link {
	all := []link.Link{
		linked(0, 0), linked(5, 5), linked(5, 6), linked(5, 1, 5), linked(5, -1), linked(5, -1, 0), linked(40, -1), linked(5, 2, 2), linked(5, 3, 2), linked(50, 0, 3, 2),
		linked(50, 0, 0), linked(50, 0, 50), linked(50, 0, 51), linked(50, 40, 3), linked(50, 49, 48), linked(20, 10, 3), linked(5, math.MinInt), linked(5, math.MinInt, 0),
		linked(5, math.MaxInt), linked(5, 1, math.MaxInt), linked(5, top), linked(5, -1<<32), linked(5, 1<<32), linked(5, -1<<32+3), linked(64, -27),
		linked(65, run(0, 65, 1)...), linked(1000, run(0, 65, 1)...), linked(1000, run(900, 65, 1)...), linked(1000, run(0, 100, 2)...), linked(5, run(0, 65, 0)...),
		linked(64, run(63, 64, -1)...), linked(top, top), linked(top, 5, 3), linked(top, run(0, 65, 1)...),
	}
	for _, next := range extremes() {
		if next < 0 || next > top {
			all = append(all, link.Link{Next: next}, linked(next), linked(next, 0), linked(next, next-1), linked(next, next-32), linked(next, next-33), linked(next, math.MinInt))
		}
	}
	return all
}

func allLinks() []link.Link { return append(rightLinks(), wrongLinks()...) }

func rightWindows() []window.Window {
	return []window.Window{
		{}, {Seen: []int{}}, {Seen: make([]int, 0, 5)}, seen(0, 1), seen(0, 1, 2, 3), seen(0, 0), seen(5), seen(5, 7, 9), seen(5, 6), seen(5, 5, 6, 9),
		seen(0, run(1, 31, 1)...), seen(0, run(1, 32, 1)...), seen(0, run(2, 32, 1)...), seen(0, run(1, 32, 2)...), seen(3, run(3, 32, 1)...), seen(0, append(run(1, 31, 1), top)...),
		seen(100), seen(100, run(101, 32, 3)...), seen(top - 1), seen(top-1, top), seen(top), seen(top, top), seen(0, top), seen(0, run(top-31, 32, 1)...),
	}
}

func wrongWindows() []window.Window {
	all := []window.Window{
		seen(0, run(1, 33, 1)...), seen(0, run(10, 100, 2)...), seen(5, 4), seen(5, 4, 6), seen(1, 0), seen(0, -1), seen(0, 5, 5), seen(0, 6, 5), seen(0, 5, 6, 6),
		seen(5, 6, 4), seen(0, top+1), seen(0, 5, top+1), seen(0, math.MaxInt), seen(0, math.MinInt), seen(0, 1<<32+5), seen(0, run(40, 32, -1)...), seen(0, 3, 1, 2),
	}
	for _, low := range extremes() {
		if low < 0 || low > top {
			all = append(all, seen(low), seen(low, low), seen(low, 5), seen(low, top))
		}
	}
	return all
}

func allWindows() []window.Window { return append(rightWindows(), wrongWindows()...) }

// shown keeps what a test says of a port short.
func shown(p Port) string {
	said := fmt.Sprintf("{Next %d [", p.Link.Next)
	for i, f := range p.Link.Queue {
		if i > 5 && i < len(p.Link.Queue)-2 {
			continue
		}
		said += fmt.Sprintf("%d:%.20q ", f.Seq, f.Text)
	}
	return said + fmt.Sprintf("](%d), Low %d %.150s (%d)}", len(p.Link.Queue), p.Window.Low, fmt.Sprint(p.Window.Seen), len(p.Window.Seen))
}

func same(p, q Port) bool {
	alike := p.Link.Next == q.Link.Next && slices.Equal(p.Link.Queue, q.Link.Queue)
	return alike && p.Window.Low == q.Window.Low && slices.Equal(p.Window.Seen, q.Window.Seen)
}

// apart is a port that is alike, in memory of its own.
func apart(p Port) Port {
	p.Link.Queue = append([]link.Frame(nil), p.Link.Queue...)
	p.Window.Seen = append([]int(nil), p.Window.Seen...)
	return p
}

// four writes a number by dividing, the lowest byte first.
func four(n int) string {
	var b []byte
	for range 4 {
		b = append(b, byte(n%256))
		n /= 256
	}
	return string(b)
}

// sealed lays the library's own sum of IEEE 802.3 behind, and body is what stands
// ahead of it.
func sealed(body string) string { return body + four(int(crc32.ChecksumIEEE([]byte(body)))) }

func body(kind byte, number int, text string) string {
	return string([]byte{kind}) + four(number) + text
}

// wantPack and wantUnpack are P23.1; none asks the other.
func wantPack(kind byte, seq int, text string) (string, api.Errno) {
	if kind != 'D' && kind != 'A' || seq < 0 || seq > 2147483647 || kind == 'A' && len(text) > 0 {
		return "", 1
	}
	return sealed(body(kind, seq, text)), 0
}

func wantUnpack(s string) (byte, int, string, api.Errno) {
	b := []byte(s)
	if len(b) < 9 {
		return 0, 0, "", 2
	}
	ahead, sum := b[:len(b)-4], b[len(b)-4:]
	if binary.LittleEndian.Uint32(sum) != crc32.ChecksumIEEE(ahead) {
		return 0, 0, "", 9
	}
	seq := int64(binary.LittleEndian.Uint32(ahead[1:5]))
	dataOne := ahead[0] == 68
	toldOne := ahead[0] == 65 && len(ahead) == 5
	if !dataOne && !toldOne || seq >= 2147483648 {
		return 0, 0, "", 2
	}
	return ahead[0], int(seq), string(ahead[5:]), 0
}

// wantRightLink is chapter 10's words, wantRightWindow and wantAccept are
// chapter 9's, over a set.
func wantRightLink(l link.Link) bool {
	last := -1
	for _, f := range l.Queue {
		if f.Seq <= last || f.Seq >= l.Next {
			return false
		}
		last = f.Seq
	}
	return l.Next >= 0 && l.Next <= 2147483647 && len(l.Queue) <= 64
}

func wantRightWindow(w window.Window) bool {
	for i, n := range w.Seen {
		if n < w.Low || n > 2147483647 || i > 0 && n <= w.Seen[i-1] {
			return false
		}
	}
	return w.Low >= 0 && w.Low <= 2147483647 && len(w.Seen) <= 32
}

func wantAccept(w window.Window, n int) (window.Window, bool) {
	if !wantRightWindow(w) || n > 2147483647 || n < w.Low || slices.Contains(w.Seen, n) {
		return w, false
	}
	low, all := w.Low, map[int]bool{n: true}
	for _, m := range w.Seen {
		all[m] = true
	}
	for len(all) > 32 {
		least := math.MaxInt
		for m := range all {
			least = min(least, m)
		}
		delete(all, least)
		low = least + 1
	}
	for all[low] {
		delete(all, low)
		low++
	}
	var left []int
	for m := range all {
		left = append(left, m)
	}
	slices.Sort(left)
	return window.Window{Low: low, Seen: left}, true
}

// wantSend, wantAgain and wantReceive are P23.2 and P23.3.
func wantSend(p Port, text string) (Port, string, api.Errno) {
	if !wantRightLink(p.Link) || p.Link.Next == 2147483647 {
		return p, "", 1
	}
	if q := p.Link.Queue; len(q) > 0 && p.Link.Next >= q[0].Seq+32 || len(q) == 64 {
		return p, "", 8
	}
	packet, _ := wantPack('D', p.Link.Next, text)
	q := apart(p)
	q.Link.Queue = append(q.Link.Queue, link.Frame{Seq: p.Link.Next, Text: text})
	q.Link.Next++
	return q, packet, 0
}

func wantAgain(p Port) []string {
	var all []string
	for _, f := range p.Link.Queue {
		if f.Seq >= 0 && f.Seq <= 2147483647 {
			all = append(all, sealed("D"+four(f.Seq)+f.Text))
		}
	}
	return all
}

func wantReceive(p Port, s string) (Port, string, bool, string, api.Errno) {
	kind, seq, text, e := wantUnpack(s)
	if e != 0 {
		return p, "", false, "", e
	}
	q := apart(p)
	if kind == 'A' {
		q.Link.Queue = nil
		for _, f := range p.Link.Queue {
			if f.Seq != seq {
				q.Link.Queue = append(q.Link.Queue, f)
			}
		}
		return q, "", false, "", 0
	}
	back := sealed("A" + four(seq))
	next, ok := wantAccept(p.Window, seq)
	if !ok {
		return p, "", false, back, 0
	}
	q.Window = next
	return q, text, true, back, 0
}

// checkPack to checkReceive hold one call, made twice, against the chapter, and
// what was handed in against what it was.
func checkPack(t *testing.T, kind byte, seq int, text string) (string, api.Errno) {
	t.Helper()
	want, errno := wantPack(kind, seq, text)
	for range 2 {
		if got, e := Pack(kind, seq, text); got != want || e != errno {
			t.Fatalf("Pack(%q, %d, %.40q): % .60x, %d, not % .60x, %d", kind, seq, text, got, e, want, errno)
		}
	}
	return want, errno
}

func checkUnpack(t *testing.T, s string) (byte, int, string, api.Errno) {
	t.Helper()
	k, n, x, errno := wantUnpack(s)
	for range 2 {
		if kind, seq, text, e := Unpack(s); kind != k || seq != n || text != x || e != errno {
			t.Fatalf("Unpack(% .60x): %q, %d, %.40q, %d, not %q, %d, %.40q, %d", s, kind, seq, text, e, k, n, x, errno)
		}
	}
	return k, n, x, errno
}

func checkSend(t *testing.T, p Port, text string) (Port, string, api.Errno) {
	t.Helper()
	was := apart(p)
	want, w, errno := wantSend(was, text)
	var got Port
	for range 2 {
		q, s, e := Send(p, text)
		if e != errno || s != w || !same(q, want) {
			t.Fatalf("Send(%s, %.40q): %s, % .60x, %d, not %s, % .60x, %d", shown(was), text, shown(q), s, e, shown(want), w, errno)
		}
		if !same(p, was) {
			t.Fatalf("Send(%s, %.40q): p is now %s", shown(was), text, shown(p))
		}
		got = q
	}
	return got, w, errno
}

func checkAgain(t *testing.T, p Port) []string {
	t.Helper()
	was := apart(p)
	want := wantAgain(was)
	var got []string
	for range 2 {
		got = Again(p)
		if !slices.Equal(got, want) {
			t.Fatalf("Again(%s): %.300q, not %.300q", shown(was), got, want)
		}
		if !same(p, was) {
			t.Fatalf("Again(%s): p is now %s", shown(was), shown(p))
		}
	}
	return got
}

func checkReceive(t *testing.T, p Port, s string) (Port, string, bool, string, api.Errno) {
	t.Helper()
	was := apart(p)
	want, x, ok, w, errno := wantReceive(was, s)
	var got Port
	for range 2 {
		q, text, up, back, e := Receive(p, s)
		if e != errno || text != x || up != ok || back != w || !same(q, want) {
			t.Fatalf("Receive(%s, % .60x): %s, %.40q, %v, % x, %d, not %s, %.40q, %v, % x, %d",
				shown(was), s, shown(q), text, up, back, e, shown(want), x, ok, w, errno)
		}
		if !same(p, was) {
			t.Fatalf("Receive(%s, % .60x): p is now %s", shown(was), s, shown(p))
		}
		got = q
	}
	return got, x, ok, w, errno
}

// refused: s is no packet, for one reason, and a port that receives it stays.
func refused(t *testing.T, what, s string, e api.Errno) {
	t.Helper()
	if _, _, _, errno := checkUnpack(t, s); errno != e {
		t.Fatalf("%s: Unpack(% .60x): %d, not %d", what, s, errno, e)
	}
	p := Port{linked(9, 0, 3, 7), seen(2, 4, 6)}
	if _, _, _, _, errno := checkReceive(t, p, s); errno != e {
		t.Fatalf("%s: Receive(% .60x): %d, not %d", what, s, errno, e)
	}
}

// told is the packet A of a number, sent the packet D of a number and a text.
func told(seq int) string              { return sealed("A" + four(seq)) }
func sent(seq int, text string) string { return sealed("D" + four(seq) + text) }

func turned(s string, bit int) string {
	b := []byte(s)
	b[bit/8] ^= 1 << (bit % 8)
	return string(b)
}

// P23.2, P23.3: the chapter's example.
func TestExample(t *testing.T) {
	a, packet, e := Send(Port{}, "a")
	if e != api.OK || !same(a, Port{Link: link.Link{Next: 1, Queue: []link.Frame{{Seq: 0, Text: "a"}}}}) {
		t.Fatalf("Send: %s, %d", shown(a), e)
	}
	b, text, ok, back, e := Receive(Port{}, packet)
	if text != "a" || !ok || e != api.OK || !same(b, Port{Window: seen(1)}) {
		t.Errorf("received: %s, %q, %v, %d", shown(b), text, ok, e)
	}
	c, text, ok, again, e := Receive(b, packet)
	if text != "" || ok || e != api.OK || !same(c, b) || again != back {
		t.Errorf("received twice: %s, %q, %v, % x, %d", shown(c), text, ok, again, e)
	}
	a, text, ok, none, e := Receive(a, back)
	if text != "" || ok || none != "" || e != api.OK || !same(a, Port{Link: link.Link{Next: 1}}) {
		t.Errorf("told of: %s, %q, %v, % x, %d", shown(a), text, ok, none, e)
	}
}

// The limits and errors that the chapter names by numbers.
func TestNumbersOfTheChapter(t *testing.T) {
	if api.Window != 32 || api.MaxQueue != 64 || api.Top != top {
		t.Errorf("the limits: %d, %d, %d", api.Window, api.MaxQueue, api.Top)
	}
	if api.ErrArg != 1 || api.ErrForm != 2 || api.ErrBusy != 8 || api.ErrSum != 9 {
		t.Errorf("the errors: %d, %d, %d, %d", api.ErrArg, api.ErrForm, api.ErrBusy, api.ErrSum)
	}
}

// P23.1: packets that are written out, byte by byte.
func TestPackWrittenOut(t *testing.T) {
	for _, c := range []struct {
		kind byte
		seq  int
		text string
		want string
		e    api.Errno
	}{
		{'D', 0, "", "D\x00\x00\x00\x00\x94\x09\x51\x6b", 0},
		{'A', 0, "", "A\x00\x00\x00\x00\xe4\x86\xb1\xa3", 0},
		{'D', 0, "a", "D\x00\x00\x00\x00a\x17\xb8\xbe\x1f", 0},
		{'D', 1, "two", "D\x01\x00\x00\x00two\xbe\x4b\x09\x80", 0},
		{'D', 0x01020304, "x", "D\x04\x03\x02\x01x\xd6\xfc\x7f\x86", 0},
		{'A', 2147483647, "", "A\xff\xff\xff\x7f\x27\x25\xb2\x90", 0},
		{'D', 2147483647, "\x00\xff", "D\xff\xff\xff\x7f\x00\xff\x45\x24\x22\xaf", 0},
		{'D', 2147483648, "", "", 1}, {'A', 2147483648, "", "", 1}, {'D', -1, "", "", 1}, {'A', -1, "", "", 1},
		{'A', 0, "x", "", 1}, {'A', 0, "\x00", "", 1}, {'d', 0, "", "", 1}, {'a', 0, "", "", 1}, {0, 0, "", "", 1}, {'M', 7, "x", "", 1},
	} {
		if got, e := Pack(c.kind, c.seq, c.text); got != c.want || e != c.e {
			t.Errorf("Pack(%q, %d, %q): %q, %d", c.kind, c.seq, c.text, got, e)
		}
		if c.e != 0 {
			continue
		}
		if kind, seq, text, e := Unpack(c.want); kind != c.kind || seq != c.seq || text != c.text || e != 0 {
			t.Errorf("Unpack(%q): %q, %d, %q, %d", c.want, kind, seq, text, e)
		}
	}
}

// P23.1: each kind, with right and wrong numbers, with and without a text: any of
// the three alone, and several at once, is ErrArg.
func TestPackOfEachKind(t *testing.T) {
	for kind := range 256 {
		for _, seq := range extremes() {
			for _, text := range []string{"", "x", "\x00"} {
				_, e := checkPack(t, byte(kind), seq, text)
				right := (kind == 'D' || kind == 'A' && text == "") && seq >= 0 && seq < 1<<31
				if (e == api.OK) != right || !right && e != api.ErrArg {
					t.Errorf("Pack(%d, %d, %q): %d", kind, seq, text, e)
				}
			}
		}
	}
}

// P23.1: each text, of a D and, but for the empty one, not of an A; each byte of
// the packet is where it belongs.
func TestPackOfEachText(t *testing.T) {
	texts := odd()
	for many := range 80 {
		texts = append(texts, strings.Repeat("\xa5", many), (*mixed)(new(uint64)).bytes(many))
	}
	for _, text := range texts {
		for _, seq := range []int{0, 1, 255, 256, 0x12345678, 0x7f000000, top - 1, top} {
			s, e := checkPack(t, 'D', seq, text)
			if e != 0 || len(s) != 9+len(text) || s[0] != 'D' || s[5:5+len(text)] != text {
				t.Errorf("Pack(D, %d, %.40q): % .60x, %d", seq, text, s, e)
			}
			for i := range 4 {
				if int(s[1+i]) != seq>>(8*i)&255 || int(s[5+len(text)+i]) != int(crc32.ChecksumIEEE([]byte(s[:5+len(text)])))>>(8*i)&255 {
					t.Errorf("Pack(D, %d, %.40q): % .60x: the bytes %d", seq, text, s, i)
				}
			}
			if _, e := checkPack(t, 'A', seq, text); (e == 0) != (text == "") {
				t.Errorf("Pack(A, %d, %.40q): %d", seq, text, e)
			}
		}
	}
}

// P23.1: bytes of each length: below 9 they are ErrForm, whatever their sum says,
// at 9 and more their sum is asked first.
func TestUnpackOfEachLength(t *testing.T) {
	for many := range 60 {
		draw := mixed(many)
		for _, s := range []string{
			strings.Repeat("\x00", many), strings.Repeat("\xff", many), strings.Repeat("D", many), strings.Repeat("A", many),
			draw.bytes(many), ("D" + strings.Repeat("\x00", many))[:many], ("A" + strings.Repeat("\x00", many))[:many],
		} {
			want := api.ErrSum
			if many < 9 {
				want = api.ErrForm
			}
			refused(t, "no sum", s, want)
			if many+4 < 9 {
				refused(t, "too short, a right sum", sealed(s), api.ErrForm)
				continue
			}
			checkUnpack(t, sealed(s))
		}
	}
	for many := range 5 {
		refused(t, "too short, a D", sealed("D\x00\x00\x00\x00"[:many]), api.ErrForm)
		refused(t, "too short, an A", sealed("A\x00\x00\x00\x00"[:many]), api.ErrForm)
	}
}

// P23.1: a wrong sum is ErrSum, of what would be a packet, and of what were none
// with a right one.
func TestUnpackOfAWrongSum(t *testing.T) {
	for _, ahead := range []string{
		"D\x00\x00\x00\x00", "A\x00\x00\x00\x00", "D\x01\x02\x03\x04text", "A\x01\x02\x03\x04text", "x\x00\x00\x00\x00", "\x00\x00\x00\x00\x00", "D\xff\xff\xff\xff",
		"A\x00\x00\x00\x80", "\xff\xff\xff\xff\xff\xff", "d\x00\x00\x00\x00", body('D', 77, strings.Repeat("z", 300)),
	} {
		sum, all := int(crc32.ChecksumIEEE([]byte(ahead))), sealed(ahead)
		for _, wrong := range []int{
			0, 1<<32 - 1, sum ^ 1, sum ^ 1<<31, sum ^ (1<<32 - 1), (sum + 1) % (1 << 32), (sum + 1<<16) % (1 << 32), (sum + 1<<32 - 1) % (1 << 32),
			int(crc32.ChecksumIEEE([]byte(all))), int(crc32.ChecksumIEEE([]byte(ahead[1:]))), int(crc32.ChecksumIEEE([]byte(ahead[:len(ahead)-1]))), sum & 0xffffff, sum & 0xffffff00, sum & 0x7fffffff,
		} {
			if wrong != sum {
				refused(t, "a wrong sum", ahead+four(wrong), api.ErrSum)
			}
		}
		b := []byte(four(sum))
		slices.Reverse(b)
		refused(t, "a sum, the highest first", ahead+string(b), api.ErrSum)
		refused(t, "a sum ahead", four(sum)+ahead, api.ErrSum)
	}
}

// P23.1: a right sum of no packet: a kind that is none, a number of 2^31 and
// above, a text behind an A, each alone and with the others.
func TestUnpackOfNoPacket(t *testing.T) {
	for kind := range 256 {
		for _, number := range []int{0, 1, 1 << 30, 1<<31 - 1, 1 << 31, 1<<31 + 1, 3 << 30, 1<<32 - 2, 1<<32 - 1} {
			for _, text := range []string{"", "x", "\x00", "\x00\x00\x00\x00", strings.Repeat("y", 70)} {
				s := sealed(body(byte(kind), number, text))
				right := (kind == 'D' || kind == 'A' && text == "") && number < 1<<31
				if !right {
					refused(t, "no packet", s, api.ErrForm)
					continue
				}
				if k, n, x, e := checkUnpack(t, s); int(k) != kind || n != number || x != text || e != api.OK {
					t.Errorf("Unpack(% .60x): %q, %d, %.40q, %d", s, k, n, x, e)
				}
			}
		}
	}
}

// P23.1: what is packed is unpacked, and the other way round; no two packets are
// alike.
func TestBackAgain(t *testing.T) {
	there := map[string]string{}
	back := func(kind byte, seq int, text string) {
		s, e := Pack(kind, seq, text)
		if e != api.OK {
			t.Fatalf("Pack(%q, %d, %.40q): %d", kind, seq, text, e)
		}
		k, n, x, e := Unpack(s)
		if k != kind || n != seq || x != text || e != api.OK {
			t.Fatalf("Pack(%q, %d, %.40q), Unpack: %q, %d, %.40q, %d", kind, seq, text, k, n, x, e)
		}
		what := fmt.Sprintf("%q %d %q", kind, seq, text)
		if other, ok := there[s]; ok && other != what {
			t.Fatalf("%s and %s have the same bytes", what, other)
		}
		there[s] = what
	}
	draw := mixed(231)
	for range 3000 {
		back('D', draw.next(1<<31), draw.bytes(draw.next(30)))
		back('A', draw.next(1<<31), "")
	}
	for _, seq := range extremes() {
		if seq >= 0 && seq < 1<<31 {
			back('A', seq, "")
			for _, text := range odd() {
				back('D', seq, text)
			}
		}
	}
	for range 3000 {
		s := sealed(body("DA"[draw.next(2)], draw.next(1<<32), draw.bytes(draw.next(4))))
		if kind, seq, text, e := checkUnpack(t, s); e == api.OK {
			if again, _ := Pack(kind, seq, text); again != s {
				t.Fatalf("Unpack(% x), Pack: % x", s, again)
			}
		}
	}
}

// packets are some that are right.
func packets() []string {
	var all []string
	for _, seq := range []int{0, 1, 7, 255, 256, 65536, 0x12345678, top - 1, top} {
		all = append(all, told(seq))
		for _, text := range odd() {
			all = append(all, sent(seq, text))
		}
	}
	return all
}

// P23.1: with any one bit turned no packet is unpacked, nor received: its sum is
// wrong. With the sum made right again it is what its bytes say.
func TestOneBitTurned(t *testing.T) {
	for _, s := range packets() {
		for bit := range 8 * len(s) {
			if _, _, _, e := Unpack(turned(s, bit)); e != api.ErrSum {
				t.Fatalf("Unpack(% .60x), of % .60x: %d", turned(s, bit), s, e)
			}
		}
		ahead := s[:len(s)-4]
		for bit := range 8 * len(ahead) {
			checkUnpack(t, sealed(turned(ahead, bit)))
		}
	}
	for _, s := range []string{told(3), sent(5, "x"), sent(2, "")} {
		for bit := range 8 * len(s) {
			refused(t, "one bit", turned(s, bit), api.ErrSum)
		}
	}
}

// P23.1: no beginning and no end of a packet is one, nor what has bytes more.
func TestBeginningsAndMore(t *testing.T) {
	for _, s := range packets() {
		if len(s) > 30 {
			continue
		}
		for n := range len(s) {
			for _, part := range []string{s[:n], s[n+1:]} {
				if _, _, _, e := checkUnpack(t, part); e == api.OK || len(part) < 9 && e != api.ErrForm {
					t.Errorf("a part of % x: % x: %d", s, part, e)
				}
			}
		}
		for n := 1; n < 12; n++ {
			for _, more := range []string{"\x00", "\xff", "x"} {
				if _, _, _, e := checkUnpack(t, s+strings.Repeat(more, n)); e != api.ErrSum {
					t.Errorf("more behind % x: %d", s, e)
				}
			}
		}
	}
}

// P23.2: texts that are sent, written out.
func TestSendWrittenOut(t *testing.T) {
	for _, c := range []struct {
		l     link.Link
		next  int
		seq   int
		e     api.Errno
		queue int
	}{
		{link.Link{}, 1, 0, 0, 1},
		{linked(1, 0), 2, 1, 0, 2},
		{linked(2, 0, 1), 3, 2, 0, 3},
		{linked(31, 0), 32, 31, 0, 2},
		{linked(32, 0), 32, 0, 8, 1},
		{linked(33, 0), 33, 0, 8, 1},
		{linked(32, 1), 33, 32, 0, 2},
		{linked(32, 1, 31), 33, 32, 0, 3},
		{linked(33, 1), 33, 0, 8, 1},
		{linked(33, 1, 32), 33, 0, 8, 2},
		{link.Link{Next: 33}, 34, 33, 0, 1},
		{link.Link{Next: 5000}, 5001, 5000, 0, 1},
		{link.Link{Next: 2147483646}, 2147483647, 2147483646, 0, 1},
		{linked(2147483646, 2147483615), 2147483647, 2147483646, 0, 2},
		{linked(2147483646, 2147483614), 2147483646, 0, 8, 1},
		{link.Link{Next: 2147483647}, 2147483647, 0, 1, 0},
		{linked(2147483647, 2147483646), 2147483647, 0, 1, 1},
		{linked(2147483647, 0), 2147483647, 0, 1, 1},
		{link.Link{Next: 2147483648}, 2147483648, 0, 1, 0},
		{link.Link{Next: -1}, -1, 0, 1, 0},
		{linked(40, 40), 40, 0, 1, 1},
		{linked(40, -1), 40, 0, 1, 1},
		{linked(40, 3, 2), 40, 0, 1, 2},
	} {
		p := Port{c.l, seen(4, 6)}
		q, s, e := checkSend(t, p, "text")
		packet := ""
		if c.e == 0 {
			packet = sent(c.seq, "text")
		}
		if e != c.e || s != packet || q.Link.Next != c.next || len(q.Link.Queue) != c.queue {
			t.Errorf("Send(%s): %s, % x, %d", shown(p), shown(q), s, e)
		}
	}
}

// P23.2: the packet D of the number Next and of the text, which is behind all
// others in the link that comes; the window stays.
func TestSend(t *testing.T) {
	for _, l := range freeLinks() {
		for _, w := range []window.Window{{}, seen(3, 5, 9), seen(-1, 4, 2), seen(math.MaxInt, run(0, 40, -1)...)} {
			p := Port{l, w}
			for _, text := range odd() {
				q, s, e := checkSend(t, p, text)
				n := len(l.Queue)
				if e != api.OK || q.Link.Next != l.Next+1 || len(q.Link.Queue) != n+1 || q.Link.Queue[n] != (link.Frame{Seq: l.Next, Text: text}) {
					t.Fatalf("Send(%s, %.40q): %s, %d", shown(p), text, shown(q), e)
				}
				if kind, seq, x, e := Unpack(s); kind != 'D' || seq != l.Next || x != text || e != api.OK {
					t.Fatalf("Send(%s, %.40q): % .60x", shown(p), text, s)
				}
				if again := checkAgain(t, q); len(again) == 0 || again[len(again)-1] != s {
					t.Fatalf("Send(%s, %.40q), Again: %.200q", shown(p), text, again)
				}
			}
		}
	}
}

// P23.2: each error, with p beside it; where several apply it is Push's ErrArg.
func TestSendErrors(t *testing.T) {
	fails := func(l link.Link, want api.Errno) {
		t.Helper()
		for _, w := range []window.Window{{}, seen(3, 5, 9), seen(7, 1)} {
			for _, text := range []string{"", "text", "\x00"} {
				p := Port{l, w}
				if q, s, e := checkSend(t, p, text); e != want || s != "" || !same(q, p) {
					t.Fatalf("Send(%s, %q): %s, % x, %d, not %d", shown(p), text, shown(q), s, e, want)
				}
			}
		}
	}
	for _, l := range busyLinks() {
		fails(l, api.ErrBusy)
	}
	for _, l := range append(lastLinks(), wrongLinks()...) {
		fails(l, api.ErrArg)
	}
}

// P23.2: how far Next may be above the first one's number, whatever stands
// between them.
func TestHowFarAhead(t *testing.T) {
	for _, first := range []int{0, 1, 2, 31, 32, 33, 1000, 1 << 16, 1 << 30, top - 100, top - 70} {
		for far := 1; far < 70; far++ {
			next := first + far
			between := []link.Link{linked(next, first), linked(next, run(first, min(far, 64), 1)...), linked(next, run(first, (far+1)/2, 2)...)}
			if far > 1 {
				between = append(between, linked(next, first, next-1), linked(next, first, first+1))
			}
			for _, l := range between {
				_, _, e := checkSend(t, Port{Link: l}, "x")
				if far < 32 && e != api.OK || far >= 32 && e != api.ErrBusy {
					t.Errorf("%d above %d: Send(%s): %d", far, first, shown(Port{Link: l}), e)
				}
			}
		}
	}
}

// P23.2: an empty Queue, with any Next.
func TestSendWhereNoneWaits(t *testing.T) {
	for _, next := range append(extremes(), run(0, 200, 1)...) {
		for _, l := range []link.Link{{Next: next}, {Next: next, Queue: []link.Frame{}}} {
			q, s, e := checkSend(t, Port{Link: l}, "x")
			if next < 0 || next >= top {
				if e != api.ErrArg {
					t.Errorf("Next %d: %d", next, e)
				}
				continue
			}
			if e != api.OK || q.Link.Next != next+1 || s != sent(next, "x") {
				t.Errorf("Next %d: %s, % x, %d", next, shown(q), s, e)
			}
		}
	}
}

// P1, P23.2: Next and the first number each at an edge, so that their difference
// has no place in an int.
func TestSendAtEdges(t *testing.T) {
	for _, next := range extremes() {
		for _, first := range extremes() {
			checkSend(t, Port{Link: linked(next, first)}, "x")
			checkSend(t, Port{Link: linked(next, first, 40)}, "x")
			checkSend(t, Port{Link: linked(next, 0, first)}, "x")
		}
	}
}

// P23.2: the packets of all that nobody told of, in the Queue's order, also of a
// link that is not right.
func TestAgain(t *testing.T) {
	for _, l := range allLinks() {
		for _, w := range []window.Window{{}, seen(3, 5)} {
			checkAgain(t, Port{l, w})
		}
	}
	for _, l := range append(freeLinks(), busyLinks()...) {
		all := checkAgain(t, Port{Link: l})
		if len(all) != len(l.Queue) {
			t.Fatalf("Again(%s): %d", shown(Port{Link: l}), len(all))
		}
		for i, s := range all {
			if kind, seq, text, e := Unpack(s); kind != 'D' || seq != l.Queue[i].Seq || text != l.Queue[i].Text || e != api.OK {
				t.Fatalf("Again(%s): %d: %q, %d, %.40q, %d", shown(Port{Link: l}), i, kind, seq, text, e)
			}
		}
	}
	for _, next := range extremes() {
		for _, queue := range [][]link.Frame{nil, {}} {
			if all := checkAgain(t, Port{Link: link.Link{Next: next, Queue: queue}}); len(all) != 0 {
				t.Errorf("Again of none, Next %d: %q", next, all)
			}
		}
	}
}

// P23.2: of a number that has no packet nothing, of the others their packets.
func TestAgainOfNoPackets(t *testing.T) {
	for _, c := range []struct {
		numbers []int
		want    []string
	}{
		{[]int{-1}, nil}, {[]int{math.MinInt}, nil}, {[]int{math.MaxInt}, nil}, {[]int{top + 1}, nil}, {[]int{1 << 32}, nil}, {[]int{-1 << 32}, nil},
		{[]int{top}, []string{sent(top, "text 0")}},
		{[]int{-1, 0}, []string{sent(0, "text 1")}},
		{[]int{0, -1}, []string{sent(0, "text 0")}},
		{[]int{5, -1, 3, top + 1, top, 5, math.MaxInt, 1<<32 + 5, 0}, []string{sent(5, "text 0"), sent(3, "text 2"), sent(top, "text 4"), sent(5, "text 5"), sent(0, "text 8")}},
	} {
		for _, next := range extremes() {
			if all := checkAgain(t, Port{Link: linked(next, c.numbers...)}); !slices.Equal(all, c.want) {
				t.Errorf("Again of %v: %q", c.numbers, all)
			}
		}
	}
	for _, text := range odd() {
		p := Port{Link: link.Link{Next: 2, Queue: []link.Frame{{Seq: 0, Text: text}, {Seq: 1, Text: text}}}}
		if all := checkAgain(t, p); !slices.Equal(all, []string{sent(0, text), sent(1, text)}) {
			t.Errorf("Again of %.40q: %.200q", text, all)
		}
	}
}

// P23.3: each of Unpack's errors, and p with it.
func TestReceiveErrors(t *testing.T) {
	bad := map[string]api.Errno{
		"": 2, "D": 2, "12345678": 2, told(0)[:8]: 2, sealed("D\x00\x00\x00"): 2, "123456789": 9, "A\x00\x00\x00\x00\x00\x00\x00\x00": 9, turned(told(0), 0): 9, turned(sent(0, "x"), 50): 9,
		sealed("x\x00\x00\x00\x00"): 2, sealed("A\x00\x00\x00\x00x"): 2, sealed("A\x00\x00\x00\x80"): 2, sealed("D\x00\x00\x00\x80"): 2, sealed("D\xff\xff\xff\xffx"): 2, sealed("d\x00\x00\x00\x00x"): 2,
	}
	for s, want := range bad {
		for _, p := range someOnes() {
			q, text, ok, back, e := checkReceive(t, p, s)
			if e != want || text != "" || ok || back != "" || !same(p, q) {
				t.Errorf("Receive(%s, %q): %s, %q, %v, %q, %d", shown(p), s, shown(q), text, ok, back, e)
			}
		}
	}
}

// someOnes are ports of all links and all windows, not each with each.
func someOnes() []Port {
	var all []Port
	links, windows := allLinks(), allWindows()
	for i := range max(len(links), len(windows)) {
		all = append(all, Port{links[i%len(links)], windows[i%len(windows)]})
	}
	return all
}

// P23.3: of an A the frames of its number are off the link, if there are any; the
// window stays, nothing is handed up, and no packet comes back.
func TestReceiveOfA(t *testing.T) {
	for _, l := range append(allLinks(), linked(9, 5, 5), linked(9, 5, 3, 5, 5), linked(0, 7), linked(9, top)) {
		numbers := []int{0, 1, 4, 31, 32, top - 1, top}
		for _, f := range l.Queue {
			numbers = append(numbers, f.Seq-1, f.Seq, f.Seq+1)
		}
		for _, n := range numbers {
			if n < 0 || n > top {
				continue
			}
			p := Port{l, seen(4, 6)}
			q, text, ok, back, e := checkReceive(t, p, told(n))
			if text != "" || ok || back != "" || e != api.OK || q.Link.Next != l.Next || !slices.Equal(q.Window.Seen, p.Window.Seen) || q.Window.Low != 4 {
				t.Fatalf("Receive(%s, A %d): %s, %q, %v, % x, %d", shown(p), n, shown(q), text, ok, back, e)
			}
			isIt := func(f link.Frame) bool { return f.Seq == n }
			if want := slices.DeleteFunc(slices.Clone(l.Queue), isIt); !slices.Equal(q.Link.Queue, want) {
				t.Fatalf("Receive(%s, A %d): %s", shown(p), n, shown(q))
			}
		}
	}
	for _, w := range allWindows() {
		checkReceive(t, Port{linked(9, 3, 5), w}, told(5))
		checkReceive(t, Port{linked(9, 3, 5), w}, told(4))
	}
}

// P23.3: of a D whose number is fresh true, its text, and the window that has
// accepted it; of another one false, and p; each time the packet A of its number.
func TestReceiveOfD(t *testing.T) {
	handedUp, not := 0, 0
	for _, w := range allWindows() {
		numbers := append(run(0, 70, 1), extremes()...)
		for d := -2; d <= 2; d++ {
			numbers = append(numbers, w.Low+d)
			for _, n := range w.Seen {
				numbers = append(numbers, n+d)
			}
		}
		for i, n := range numbers {
			if n < 0 || n > top {
				continue
			}
			text := odd()[i%len(odd())]
			p := Port{linked(9, 3, 5), w}
			q, x, ok, back, e := checkReceive(t, p, sent(n, text))
			next, fresh := wantAccept(w, n)
			if e != api.OK || back != told(n) || ok != fresh || ok && x != text || !ok && x != "" {
				t.Fatalf("Receive(%s, D %d): %q, %v, % x, %d", shown(p), n, x, ok, back, e)
			}
			if !same(q, Port{p.Link, next}) {
				t.Fatalf("Receive(%s, D %d): %s", shown(p), n, shown(q))
			}
			if fresh {
				handedUp++
			} else {
				not++
			}
		}
	}
	if handedUp < 1000 || not < 1000 {
		t.Errorf("handed up %d, not %d", handedUp, not)
	}
	for _, l := range allLinks() {
		checkReceive(t, Port{l, seen(4, 6)}, sent(5, "x"))
		checkReceive(t, Port{l, seen(4, 6)}, sent(6, "x"))
	}
}

// P23.3: packets that are received, written out.
func TestReceiveWrittenOut(t *testing.T) {
	l := linked(9, 3, 5)
	for _, c := range []struct {
		w    window.Window
		n    int
		ok   bool
		want window.Window
	}{
		{seen(0), 0, true, seen(1)},
		{seen(0), 3, true, seen(0, 3)},
		{seen(0, 3), 3, false, seen(0, 3)},
		{seen(5), 4, false, seen(5)},
		{seen(5), 0, false, seen(5)},
		{seen(5, 7), 5, true, seen(6, 7)},
		{seen(5, 6, 8), 5, true, seen(7, 8)},
		{seen(5, 7), 2147483647, true, seen(5, 7, 2147483647)},
		{seen(0, run(1, 32, 1)...), 40, true, seen(33, 40)},
		{seen(0, run(2, 32, 1)...), 40, true, seen(34, 40)},
		{seen(0, run(1, 32, 2)...), 2147483647, true, seen(2, append(run(3, 31, 2), 2147483647)...)},
		{seen(0, run(1, 32, 1)...), 0, true, seen(33)},
		{seen(2147483647), 2147483647, true, seen(2147483648)},
		{seen(2147483648), 2147483647, false, seen(2147483648)},
		{seen(-1), 5, false, seen(-1)},
		{seen(0, 6, 5), 7, false, seen(0, 6, 5)},
		{seen(0, run(1, 33, 1)...), 0, false, seen(0, run(1, 33, 1)...)},
	} {
		q, text, ok, back, e := checkReceive(t, Port{l, c.w}, sent(c.n, "text"))
		want := ""
		if c.ok {
			want = "text"
		}
		if text != want || ok != c.ok || back != told(c.n) || e != 0 || !same(q, Port{l, c.want}) {
			t.Errorf("Receive(%v, D %d): %s, %q, %v, % x, %d", c.w, c.n, shown(q), text, ok, back, e)
		}
	}
}

// P23.3: what is told of one port's texts says nothing of the other way: an A
// turns no window, a D no link, also where the numbers are alike.
func TestTwoWaysApart(t *testing.T) {
	for n := range 10 {
		p := Port{linked(10, run(0, 10, 1)...), seen(0)}
		q, _, _, _, _ := checkReceive(t, p, sent(n, "x"))
		if len(q.Link.Queue) != 10 {
			t.Errorf("D %d: %s", n, shown(q))
		}
		r, _, _, _, _ := checkReceive(t, p, told(n))
		if len(r.Link.Queue) != 9 || r.Window.Low != 0 || len(r.Window.Seen) != 0 {
			t.Errorf("A %d: %s", n, shown(r))
		}
	}
}

// net is two ports, what is on its way to each, all that ever was, what each sent,
// and what was handed up at each.
type net struct {
	port           [2]Port
	way, ever      [2][]string
	sent, handedUp [2][]string
}

// send is a new text, from one end to the other.
func (n *net) send(t *testing.T, from int) api.Errno {
	t.Helper()
	text := fmt.Sprintf("%d of %d", len(n.sent[from]), from)
	p, s, e := checkSend(t, n.port[from], text)
	n.port[from] = p
	if e == api.OK {
		n.sent[from] = append(n.sent[from], text)
		n.put(1-from, s)
	}
	return e
}

func (n *net) put(to int, packets ...string) {
	n.way[to] = append(n.way[to], packets...)
	n.ever[to] = append(n.ever[to], packets...)
}

func (n *net) again(t *testing.T, from int) {
	t.Helper()
	n.put(1-from, checkAgain(t, n.port[from])...)
}

// receive is a packet that comes, whatever it is; what comes back goes its way.
func (n *net) receive(t *testing.T, to int, s string) api.Errno {
	t.Helper()
	p, text, ok, back, e := checkReceive(t, n.port[to], s)
	n.port[to] = p
	if ok {
		n.handedUp[to] = append(n.handedUp[to], text)
	}
	if back != "" {
		n.put(1-to, back)
	}
	return e
}

// deliver takes the packet i off the way, and lose does no more than that.
func (n *net) deliver(t *testing.T, to, i int) {
	t.Helper()
	n.receive(t, to, n.lose(to, i))
}

func (n *net) lose(to, i int) string {
	s := n.way[to][i]
	n.way[to] = slices.Delete(n.way[to], i, i+1)
	return s
}

// deliverAll delivers, in a drawn order, till none is on its way.
func (n *net) deliverAll(t *testing.T, draw *mixed) {
	t.Helper()
	for len(n.way[0])+len(n.way[1]) > 0 {
		to := draw.next(2)
		if len(n.way[to]) == 0 {
			to = 1 - to
		}
		n.deliver(t, to, draw.next(len(n.way[to])))
	}
}

// atMostOnce: no text was handed up twice, and none that the other end did not
// send.
func (n *net) atMostOnce(t *testing.T) {
	t.Helper()
	for to := range 2 {
		all := slices.Clone(n.handedUp[to])
		slices.Sort(all)
		for i, text := range all {
			if i > 0 && all[i-1] == text {
				t.Fatalf("%q was handed up twice", text)
			}
			if !slices.Contains(n.sent[1-to], text) {
				t.Fatalf("%q was handed up, and not sent", text)
			}
		}
	}
}

// exactlyOnce: every text was, and nobody waits to be told of one.
func (n *net) exactlyOnce(t *testing.T) {
	t.Helper()
	n.atMostOnce(t)
	for to := range 2 {
		if len(n.handedUp[to]) != len(n.sent[1-to]) {
			t.Fatalf("%d texts were handed up, %d sent: %s, %s", len(n.handedUp[to]), len(n.sent[1-to]), shown(n.port[0]), shown(n.port[1]))
		}
		if p := n.port[to]; len(p.Link.Queue) > 0 || len(p.Window.Seen) > 0 {
			t.Fatalf("all came, and %s", shown(p))
		}
	}
}

// began is two ports between which nothing was sent yet, from these numbers on.
func began(first, second int) *net {
	return &net{port: [2]Port{{link.Link{Next: first}, seen(second)}, {link.Link{Next: second}, seen(first)}}}
}

// act is one thing that happens on a net that loses, doubles, turns round, and
// spoils; of each kind as often as shares tell.
func (n *net) act(t *testing.T, draw *mixed, shares [7]int) {
	t.Helper()
	side, kinds := draw.next(2), []int{}
	for kind, share := range shares {
		kinds = append(kinds, slices.Repeat([]int{kind}, share)...)
	}
	kind, many := kinds[draw.next(len(kinds))], len(n.way[side])
	if kind > 1 && many == 0 {
		return
	}
	i := draw.next(max(many, 1))
	switch kind {
	case 0:
		n.send(t, side)
	case 1:
		n.again(t, side)
	case 2:
		n.deliver(t, side, i)
	case 3:
		n.deliver(t, side, 0)
	case 4:
		n.lose(side, i)
	case 5:
		n.put(side, n.way[side][i])
	case 6:
		s := turned(n.way[side][i], draw.next(8*len(n.way[side][i])))
		if e := n.receive(t, side, s); e != api.ErrSum {
			t.Fatalf("one bit turned: %d", e)
		}
	}
}

// shares are nets of many kinds: even, with much that is lost, or doubled, with
// much that is sent and little that is delivered, that turn nothing round, and
// that lose nothing.
func shares() [][7]int {
	return [][7]int{
		{3, 1, 8, 2, 2, 2, 1}, {3, 1, 4, 0, 6, 1, 1}, {3, 1, 6, 2, 1, 6, 1}, {8, 1, 2, 1, 1, 1, 0}, {6, 2, 0, 9, 0, 0, 0}, {10, 1, 9, 4, 0, 1, 0}, {2, 3, 8, 0, 8, 3, 2},
	}
}

// P23.4: over any net no text is handed up twice; once what is sent again comes
// through, one time is enough, each text was handed up; and what comes later, of
// all that ever was on its way, hands nothing up.
func TestAnyNet(t *testing.T) {
	draw := mixed(2340)
	busy := 0
	for round := range 350 {
		n := began(0, 0)
		switch round % 4 {
		case 1:
			n = began(1+draw.next(1000), 1+draw.next(1<<30))
		case 2:
			n = began(top-1-draw.next(60), top-draw.next(3))
		}
		share := shares()[round%len(shares())]
		for range 20 + draw.next(300) {
			n.act(t, &draw, share)
			if len(n.way[0])+len(n.way[1]) > 400 {
				n.way = [2][]string{}
			}
			n.atMostOnce(t)
		}
		for side := range 2 {
			if n.send(t, side) == api.ErrBusy {
				busy++
			}
		}
		n.settle(t, &draw)
	}
	if busy < 20 {
		t.Errorf("busy: %d", busy)
	}
}

// settle lets all that is on its way come, or none of it, and then what is sent
// again.
func (n *net) settle(t *testing.T, draw *mixed) {
	t.Helper()
	if draw.next(2) == 0 {
		n.way = [2][]string{}
	}
	n.again(t, 0)
	n.again(t, 1)
	n.deliverAll(t, draw)
	n.exactlyOnce(t)
	was := n.port
	for to := range 2 {
		old := slices.Clone(n.ever[to])
		for _, i := range draw.order(len(old)) {
			n.receive(t, to, old[i])
		}
	}
	n.exactlyOnce(t)
	if !same(was[0], n.port[0]) || !same(was[1], n.port[1]) {
		t.Fatalf("what came before has turned %s, %s to %s, %s", shown(was[0]), shown(was[1]), shown(n.port[0]), shown(n.port[1]))
	}
}

// P23.4: each way in which a few texts can go over a net, one way: each step is a
// text more, or any packet that ever was on its way, to either end.
func TestEachWay(t *testing.T) {
	for _, c := range []struct{ texts, steps int }{{1, 6}, {2, 6}, {3, 5}} {
		walk(t, *began(0, 0), c.texts, c.steps)
	}
}

func walk(t *testing.T, n net, texts, steps int) {
	t.Helper()
	n.atMostOnce(t)
	if steps == 0 {
		draw := mixed(1)
		m := n.apart()
		m.way = [2][]string{}
		m.again(t, 0)
		m.deliverAll(t, &draw)
		m.exactlyOnce(t)
		return
	}
	if len(n.sent[0]) < texts {
		m := n.apart()
		m.send(t, 0)
		walk(t, m, texts, steps-1)
	}
	for to := range 2 {
		packets := slices.Clone(n.ever[to])
		slices.Sort(packets)
		for _, s := range slices.Compact(packets) {
			m := n.apart()
			m.receive(t, to, s)
			walk(t, m, texts, steps-1)
		}
	}
}

func (n net) apart() net {
	for i := range 2 {
		n.port[i] = apart(n.port[i])
		n.way[i], n.ever[i] = slices.Clone(n.way[i]), slices.Clone(n.ever[i])
		n.sent[i], n.handedUp[i] = slices.Clone(n.sent[i]), slices.Clone(n.handedUp[i])
	}
	return n
}

// P23.4: while nobody tells of them 32 texts are sent, and no more, whether they
// came or not; while the first one is not told of that is so, also if all others
// are; with it there is room up to the next one that is not told of.
func TestThirtyTwo(t *testing.T) {
	for _, first := range []int{0, 1, 77, top - 200} {
		for _, come := range []bool{false, true} {
			n := began(first, 0)
			for i := range 32 {
				if e := n.send(t, 0); e != api.OK {
					t.Fatalf("%d, from %d on: %d", i, first, e)
				}
			}
			if come {
				for _, s := range slices.Clone(n.way[1]) {
					n.receive(t, 1, s)
				}
			}
			for range 3 {
				if e := n.send(t, 0); e != api.ErrBusy {
					t.Fatalf("33, from %d on: %d", first, e)
				}
			}
			for i := 1; i < 32; i++ {
				n.receive(t, 0, told(first+i))
				if e := n.send(t, 0); e != api.ErrBusy {
					t.Fatalf("33, from %d on, all up to %d told of: %d", first, i, e)
				}
			}
			n.receive(t, 0, told(first))
			for i := range 32 {
				if e := n.send(t, 0); e != api.OK {
					t.Fatalf("%d more, from %d on: %d", i, first, e)
				}
			}
			if e := n.send(t, 0); e != api.ErrBusy || len(n.sent[0]) != 64 {
				t.Fatalf("65, from %d on: %d, %d", first, e, len(n.sent[0]))
			}
		}
	}
}

// P23.4: which of 32 is told of first says how many more are sent.
func TestRoom(t *testing.T) {
	for off := range 32 {
		n := began(0, 0)
		for range 32 {
			n.send(t, 0)
		}
		for i := range off {
			n.receive(t, 0, told(i))
		}
		more := 0
		for more < 100 && n.send(t, 0) == api.OK {
			more++
		}
		if more != off {
			t.Errorf("%d told of: %d more", off, more)
		}
	}
}

// P23.4: the window has room for all that can be ahead of one that did not come:
// that one is handed up all the same, whichever it is.
func TestTheLateOne(t *testing.T) {
	for late := range 32 {
		n := began(0, 0)
		for n.send(t, 0) == api.OK {
			n.atMostOnce(t)
		}
		first := n.lose(1, late)
		for sends := 0; len(n.way[1]) > 0 && sends < 200; sends++ {
			n.deliver(t, 1, 0)
			for len(n.way[0]) > 0 {
				n.deliver(t, 0, 0)
			}
			for n.send(t, 0) == api.OK {
				n.atMostOnce(t)
			}
		}
		if len(n.sent[0]) != 32+late || len(n.handedUp[1]) != 31+late {
			t.Fatalf("late %d: %d, %d", late, len(n.sent[0]), len(n.handedUp[1]))
		}
		n.receive(t, 1, first)
		for len(n.way[0]) > 0 {
			n.deliver(t, 0, 0)
		}
		n.exactlyOnce(t)
		n.receive(t, 1, first)
		n.exactlyOnce(t)
	}
}

// P23.4: over a net that loses nothing, and turns nothing round, texts are handed
// up one by one, in their order, both ways at once.
func TestInOrder(t *testing.T) {
	n := began(0, 0)
	for i := range 200 {
		for side := range 2 {
			if e := n.send(t, side); e != api.OK {
				t.Fatalf("%d, from %d: %d", i, side, e)
			}
		}
		for len(n.way[0])+len(n.way[1]) > 0 {
			for to := range 2 {
				if len(n.way[to]) > 0 {
					n.deliver(t, to, 0)
				}
			}
		}
		n.exactlyOnce(t)
	}
	draw := mixed(5)
	for range 2000 {
		n.act(t, &draw, [7]int{3, 0, 0, 9})
	}
	for side := range 2 {
		if up := n.handedUp[side]; len(up) < 400 || !slices.Equal(up, n.sent[1-side][:len(up)]) {
			t.Errorf("handed up at %d: %d, or in another order", side, len(up))
		}
	}
}

// P23.4: the numbers end; all that were given are handed up, and no more are sent.
func TestTheLastNumbers(t *testing.T) {
	draw := mixed(8)
	for _, left := range []int{0, 1, 2, 31, 32, 33} {
		n := began(top-left, top)
		for range 2 {
			for n.send(t, 0) == api.OK {
				n.atMostOnce(t)
			}
			n.settle(t, &draw)
		}
		if e := n.send(t, 0); e != api.ErrArg || len(n.handedUp[1]) != left {
			t.Errorf("%d left: %d handed up, %d", left, len(n.handedUp[1]), e)
		}
	}
}

// number is one that is small more often than not.
func (m *mixed) number(small int) int {
	if m.next(10) == 0 {
		return extremes()[m.next(len(extremes()))]
	}
	return m.next(small)
}

// drawn is a port that is right more often than not, nobody's own.
func (m *mixed) drawn() Port {
	p := Port{Link: link.Link{Next: m.number(90)}, Window: window.Window{Low: m.number(40)}}
	step, many := 1+m.next(3), []int{0, 1, 2, 5, 20, 31, 32, 33, 64, 65}[m.next(10)]
	n := p.Link.Next - many*step - m.next(3)
	if m.next(4) > 0 {
		n = max(n, 0)
	}
	for range many {
		p.Link.Queue = append(p.Link.Queue, link.Frame{Seq: n, Text: m.bytes(m.next(4))})
		n += 1 + m.next(step)
		if m.next(200) == 0 {
			n = m.number(90)
		}
	}
	n = p.Window.Low
	for range []int{0, 1, 2, 5, 20, 31, 32, 33}[m.next(8)] {
		n += 1 + m.next(3)
		if m.next(200) == 0 {
			n = m.number(90)
		}
		p.Window.Seen = append(p.Window.Seen, n)
	}
	return p
}

// packet is one that would be received more often than not.
func (m *mixed) packet(p Port) string {
	number := m.next(90)
	switch m.next(6) {
	case 0:
		number = p.Window.Low + m.next(3) - 1
	case 1:
		if len(p.Window.Seen) > 0 {
			number = p.Window.Seen[m.next(len(p.Window.Seen))]
		}
	case 2, 3:
		if len(p.Link.Queue) > 0 {
			number = p.Link.Queue[m.next(len(p.Link.Queue))].Seq
		}
	case 4:
		number = extremes()[m.next(len(extremes()))]
	}
	kind, text := byte("DDA"[m.next(3)]), m.bytes(m.next(5))
	if kind == 'A' && m.next(4) > 0 {
		text = ""
	}
	if m.next(12) == 0 {
		kind = byte(m.next(256))
	}
	ahead := body(kind, int(uint32(number)), text)
	if m.next(12) == 0 {
		ahead = ahead[:m.next(len(ahead))]
	}
	s := sealed(ahead)
	if m.next(12) == 0 {
		s = turned(s, m.next(8*len(s)))
	}
	return s
}

// P23.1 to P23.3: drawn ports, texts and bytes, right and not, against the
// chapter's words.
func TestDrawn(t *testing.T) {
	draw := mixed(2323)
	told := map[string]int{}
	for range 60000 {
		p := draw.drawn()
		s := draw.packet(p)
		_, _, e := checkSend(t, p, draw.bytes(draw.next(6)))
		told[fmt.Sprint("Send ", e)]++
		_, _, ok, back, e := checkReceive(t, p, s)
		told[fmt.Sprint("Receive ", e, ok, back != "")]++
		kind, seq, text, e := checkUnpack(t, s)
		told[fmt.Sprint("Unpack ", e)]++
		checkPack(t, kind, seq, text)
		_, e = checkPack(t, byte("DDAx"[draw.next(4)]), draw.number(1<<20), draw.bytes(draw.next(2)))
		told[fmt.Sprint("Pack ", e)]++
		checkAgain(t, p)
	}
	for _, what := range []string{
		"Send 0", "Send 1", "Send 8", "Receive 0 true true", "Receive 0 false true", "Receive 0 false false", "Receive 2 false false", "Receive 9 false false",
		"Unpack 0", "Unpack 2", "Unpack 9", "Pack 0", "Pack 1",
	} {
		if told[what] < 500 {
			t.Errorf("%s: %d of %v", what, told[what], told)
		}
	}
}

// roomy is a port that is alike, with room behind its lists that is not nought;
// whole is all memory of one, up to its end.
func roomy(p Port) Port {
	p.Link.Queue = append(slices.Clone(p.Link.Queue), framed(91, 92, 93)...)[:len(p.Link.Queue)]
	p.Window.Seen = append(slices.Clone(p.Window.Seen), 94, 95, 96)[:len(p.Window.Seen)]
	return p
}

func whole(p Port) Port {
	p.Link.Queue, p.Window.Seen = p.Link.Queue[:cap(p.Link.Queue)], p.Window.Seen[:cap(p.Window.Seen)]
	return p
}

// spoil writes into all memory that a port can reach.
func spoil(p Port) {
	p = whole(p)
	for i := range p.Link.Queue {
		p.Link.Queue[i] = link.Frame{Seq: -7, Text: "spoiled"}
	}
	for i := range p.Window.Seen {
		p.Window.Seen[i] = -8
	}
}

// answers are all ports that calls make of one.
func answers(t *testing.T, p Port, s string) []Port {
	t.Helper()
	a, _, _ := checkSend(t, p, "text")
	all := []Port{a}
	for _, packet := range []string{s, told(5), sent(6, "x"), "wrong", told(top), sent(0, "")} {
		b, _, _, _, _ := checkReceive(t, p, packet)
		all = append(all, b)
	}
	return all
}

// R1, R4: what is handed in stays as it is, up to the end of its memory, which
// counts not; what is answered shares none of it, and no answer with another.
func TestMemory(t *testing.T) {
	draw := mixed(2301)
	for range 3000 {
		p := roomy(draw.drawn())
		was := apart(whole(p))
		all := answers(t, p, draw.packet(p))
		if !same(whole(p), was) {
			t.Fatalf("%s: the memory is changed", shown(p))
		}
		var were []Port
		for _, q := range all {
			were = append(were, apart(q))
		}
		spoil(p)
		was = apart(whole(p))
		for i := range all {
			for k := i; k < len(all); k++ {
				if !same(all[k], were[k]) {
					t.Fatalf("%s: the answer %d changes with another, or with what was handed in", shown(p), k)
				}
			}
			spoil(all[i])
		}
		if !same(whole(p), was) {
			t.Fatalf("%s: what was handed in changes with an answer", shown(p))
		}
	}
}

// R1: the packets of one answer, written over, turn none of the next one's.
func TestAgainIsNew(t *testing.T) {
	p := Port{Link: linked(9, 3, 5, 7)}
	first := Again(p)
	for i := range first[:cap(first)] {
		first[:cap(first)][i] = "spoiled"
	}
	if all := checkAgain(t, p); len(all) != 3 {
		t.Errorf("Again: %q", all)
	}
}

// R3, R4: a port that was answered before is as it was when a later call is made
// with it, or with one that was made of it.
func TestEarlierOnes(t *testing.T) {
	draw := mixed(2303)
	for range 200 {
		ports := []Port{{}, draw.drawn()}
		var were []Port
		for _, p := range ports {
			were = append(were, apart(p))
		}
		for range 60 {
			p := ports[draw.next(len(ports))]
			switch draw.next(4) {
			case 0, 1:
				p, _, _ = checkSend(t, p, draw.bytes(3))
			case 2:
				p, _, _, _, _ = checkReceive(t, p, draw.packet(p))
			default:
				checkAgain(t, p)
			}
			ports, were = append(ports, p), append(were, apart(p))
			for k := range ports {
				if !same(ports[k], were[k]) {
					t.Fatalf("%s: now %s", shown(were[k]), shown(ports[k]))
				}
			}
		}
	}
}

// R3: two texts that are sent by one port make two ports, of one number each.
func TestTwoOfOne(t *testing.T) {
	p := roomy(Port{Link: linked(3, 1, 2)})
	a, _, _ := checkSend(t, p, "a")
	b, _, _ := checkSend(t, p, "b")
	if a.Link.Queue[2] != (link.Frame{Seq: 3, Text: "a"}) || b.Link.Queue[2] != (link.Frame{Seq: 3, Text: "b"}) {
		t.Errorf("%s, %s", shown(a), shown(b))
	}
}

// P1: great texts, bytes and ports have an answer as well.
func TestGreatOnes(t *testing.T) {
	text := strings.Repeat("switchboard", 100000)
	p, s, e := checkSend(t, Port{}, text)
	if e != api.OK || len(s) != len(text)+9 {
		t.Fatalf("Send: %d, %d bytes", e, len(s))
	}
	if q, x, ok, back, e := checkReceive(t, p, s); x != text || !ok || back != told(0) || e != api.OK || len(q.Link.Queue) != 1 {
		t.Errorf("Receive: %d bytes, %v, %d", len(x), ok, e)
	}
	checkPack(t, 'A', 0, text)
	checkUnpack(t, text)
	checkUnpack(t, sealed("A\x00\x00\x00\x00"+text))
	checkUnpack(t, turned(s, 8*len(s)/2))
	great := Port{linked(200000, run(0, 100000, 2)...), seen(0, run(0, 100000, 2)...)}
	if _, _, e := checkSend(t, great, "x"); e != api.ErrArg {
		t.Errorf("Send of a great port: %d", e)
	}
	checkReceive(t, great, sent(7, "x"))
	if q, _, _, _, _ := checkReceive(t, great, told(8)); len(q.Link.Queue) != 99999 {
		t.Errorf("Receive of a great port: %s", shown(q))
	}
	if all := checkAgain(t, great); len(all) != 100000 {
		t.Errorf("Again of a great port: %d", len(all))
	}
}

// FuzzPort reads the link's and the window's numbers from bytes, each as a step,
// with a sign, from Next and Low; s is received as it is, and with its sum behind.
func FuzzPort(f *testing.F) {
	f.Add(9, []byte{250, 252, 255}, 4, []byte{1, 2, 5}, "text", byte('D'), 5, sent(5, "x"))
	f.Add(32, []byte{224}, 0, []byte{1, 2, 3}, "", byte('A'), 0, told(0))
	f.Add(top, []byte{}, top, []byte{0}, "\x00", byte('x'), top, "short")
	f.Add(-1, []byte{1}, -1, []byte{255}, "a", byte('D'), -1, "D00001234")
	f.Add(33, []byte{223, 224, 255}, 1<<31, []byte{}, "b", byte('A'), 1<<31, sealed("A\x00\x00\x00\x00x"))
	f.Fuzz(func(t *testing.T, next int, frames []byte, low int, numbers []byte, text string, kind byte, seq int, s string) {
		if len(frames)+len(numbers)+len(text)+len(s) > 500 {
			t.Skip()
		}
		p := Port{link.Link{Next: next}, window.Window{Low: low}}
		for i, b := range frames {
			p.Link.Queue = append(p.Link.Queue, link.Frame{Seq: next + int(int8(b)), Text: text[:i%(len(text)+1)]})
		}
		for _, b := range numbers {
			p.Window.Seen = append(p.Window.Seen, low+int(int8(b)))
		}
		checkPack(t, kind, seq, text)
		checkAgain(t, p)
		q, packet, e := checkSend(t, p, text)
		for _, packet := range []string{s, sealed(s), sealed(body(kind, int(uint32(seq)), text)), told(int(uint32(seq)) % (1 << 31)), packet} {
			checkUnpack(t, packet)
			checkReceive(t, p, packet)
			if e == api.OK {
				checkReceive(t, q, packet)
			}
		}
	})
}
