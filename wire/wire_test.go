package wire

import (
	"encoding/binary"
	"hash/crc32"
	"math"
	"reflect"
	"slices"
	"strings"
	"testing"

	"switchboard/api"
	"switchboard/crc"
)

// names are the numbers of a message ahead of Vec, in the chapter's order.
var names = []string{"Kind", "From", "To", "Seq", "Batch", "Layer", "Token", "Rank", "Expert", "Epoch"}

// with is m with another number in the field of that name.
func with(m api.Msg, name string, n int) api.Msg {
	reflect.ValueOf(&m).Elem().FieldByName(name).SetInt(int64(n))
	return m
}

func field(m api.Msg, name string) int {
	return int(reflect.ValueOf(m).FieldByName(name).Int())
}

// plain is a right message in which no two numbers are alike.
func plain(vec ...int) api.Msg {
	return api.Msg{Kind: 2, From: 11, To: 12, Seq: 13, Batch: 14, Layer: 15, Token: 16, Rank: 17, Expert: 18, Epoch: 19, Vec: vec}
}

// four is a number's four bytes, the lowest first, worked out by dividing.
func four(n int) string {
	if n < 0 {
		n += 4_294_967_296
	}
	var b [4]byte
	for i := range b {
		b[i] = byte(n % 256)
		n /= 256
	}
	return string(b[:])
}

func fours(numbers ...int) string {
	var b strings.Builder
	for _, n := range numbers {
		b.WriteString(four(n))
	}
	return b.String()
}

// sealed lays a right first number and a right sum round a body.
func sealed(body string) string {
	return four(len(body)+4) + body + four(int(crc32.ChecksumIEEE([]byte(body))))
}

// listed is the numbers of a message from Kind on, but the sum.
func listed(m api.Msg) []int {
	var numbers []int
	for _, name := range names {
		numbers = append(numbers, field(m, name))
	}
	numbers = append(numbers, len(m.Vec))
	return append(numbers, m.Vec...)
}

// wantRight is the chapter's first sentence.
func wantRight(m api.Msg) bool {
	if m.Kind < 1 || m.Kind > 4 || len(m.Vec) > 8 {
		return false
	}
	for _, name := range names {
		if n := field(m, name); n < 0 || n > 2_147_483_647 {
			return false
		}
	}
	for _, n := range m.Vec {
		if n < -2_147_483_648 || n > 2_147_483_647 {
			return false
		}
	}
	return true
}

// wantTake is P7.1 of bytes, read by the library.
func wantTake(s string) (api.Msg, api.Errno) {
	b := []byte(s)
	if len(b) < 52 || len(b)%4 != 0 || uint64(binary.LittleEndian.Uint32(b)) != uint64(len(b)-4) {
		return api.Msg{}, api.ErrForm
	}
	if binary.LittleEndian.Uint32(b[len(b)-4:]) != crc32.ChecksumIEEE(b[4:len(b)-4]) {
		return api.Msg{}, api.ErrSum
	}
	var m api.Msg
	for i, name := range names {
		m = with(m, name, int(binary.LittleEndian.Uint32(b[4+4*i:])))
	}
	if uint64(binary.LittleEndian.Uint32(b[44:])) != uint64(len(b)/4-13) {
		return api.Msg{}, api.ErrForm
	}
	for at := 48; at < len(b)-4; at += 4 {
		m.Vec = append(m.Vec, int(int32(binary.LittleEndian.Uint32(b[at:]))))
	}
	if !wantRight(m) {
		return api.Msg{}, api.ErrForm
	}
	return m, api.OK
}

// same: nil and empty lists are the same (R5).
func same(a, b api.Msg) bool {
	return slices.Equal(listed(a), listed(b))
}

// checkPut holds Right and Put of a message against the chapter; a right one
// is taken back.
func checkPut(t *testing.T, m api.Msg) {
	t.Helper()
	right := wantRight(m)
	if Right(m) != right {
		t.Errorf("Right(%+v): %v", m, !right)
	}
	s, e := Put(m)
	if !right {
		if s != "" || e != api.ErrArg {
			t.Errorf("Put(%+v): %q, %d, not ErrArg and no byte", m, s, e)
		}
		return
	}
	if w := sealed(fours(listed(m)...)); s != w || e != api.OK {
		t.Errorf("Put(%+v): % x, %d, not % x", m, s, e, w)
	}
	if back, e := Take(s); e != api.OK || !same(back, m) {
		t.Errorf("Take(Put(%+v)): %+v, %d", m, back, e)
	}
}

// checkTake holds Take of bytes against the chapter; what is taken is written
// back.
func checkTake(t *testing.T, s string) api.Errno {
	t.Helper()
	m, e := Take(s)
	w, f := wantTake(s)
	if e != f || !same(m, w) {
		t.Errorf("Take(% x): %+v, %d, not %+v, %d", shown(s), m, e, w, f)
	}
	if e != api.OK {
		if !reflect.DeepEqual(m, api.Msg{}) {
			t.Errorf("Take(% x): %+v beside error %d", shown(s), m, e)
		}
		return e
	}
	if back, e := Put(m); back != s || e != api.OK {
		t.Errorf("Put(Take(% x)): % x, %d", s, back, e)
	}
	return e
}

// refused holds that these bytes are no message, and why.
func refused(t *testing.T, what, s string, want api.Errno) {
	t.Helper()
	if e := checkTake(t, s); e != want {
		t.Errorf("%s: Take(% x): error %d, not %d", what, shown(s), e, want)
	}
}

// shown keeps what a test says of many bytes short.
func shown(s string) string {
	if len(s) > 120 {
		return s[:120]
	}
	return s
}

// turned is s with one bit turned.
func turned(s string, bit int) string {
	b := []byte(s)
	b[bit/8] ^= 1 << (bit % 8)
	return string(b)
}

// mixer tells numbers of every length, always the same ones.
func mixer(mixed uint64) func() int {
	return func() int {
		mixed = mixed*6364136223846793005 + 1442695040888963407
		return int(mixed>>33) >> (mixed >> 27 & 31)
	}
}

func mixedMessage(next func() int) api.Msg {
	m := api.Msg{Kind: 1 + next()%4}
	for _, name := range names[1:] {
		m = with(m, name, next())
	}
	for range next() % 9 {
		m.Vec = append(m.Vec, next()-next())
	}
	return m
}

// messages are right ones of many kinds.
func messages() []api.Msg {
	const top, low = math.MaxInt32, math.MinInt32
	full := api.Msg{Kind: 4, From: top, To: top, Seq: top, Batch: top, Layer: top, Token: top, Rank: top, Expert: top, Epoch: top}
	fullOfTop, fullOfLow := full, full
	fullOfTop.Vec = []int{top, top, top, top, top, top, top, top}
	fullOfLow.Vec = []int{low, low, low, low, low, low, low, low}
	all := []api.Msg{
		{Kind: api.Ask}, {Kind: api.Answer}, {Kind: api.Stale}, {Kind: api.Ack},
		{Kind: 1, Vec: []int{}}, {Kind: 1, Vec: []int{0}}, {Kind: 1, Vec: []int{-1}}, {Kind: 1, Vec: make([]int, 8)},
		plain(), plain(7), plain(-7, 7), plain(-1, -256, -65536, 65536, low, top, 0, 1), full, fullOfTop, fullOfLow,
	}
	next := mixer(7)
	for range 10 {
		all = append(all, mixedMessage(next))
	}
	return all
}

// written is a right message's bytes.
func written(t *testing.T, m api.Msg) string {
	t.Helper()
	s, e := Put(m)
	if e != api.OK {
		t.Fatalf("Put(%+v): %d", m, e)
	}
	return s
}

// P7.1: the chapter's example, and the bytes of messages that are written out.
func TestBytes(t *testing.T) {
	if s := written(t, api.Msg{Kind: 1}); len(s) != 52 {
		t.Errorf("without Vec: %d bytes", len(s))
	}
	for _, c := range []struct {
		m    api.Msg
		body string
	}{
		{api.Msg{Kind: 1}, "\x01\x00\x00\x00" + strings.Repeat("\x00", 40)},
		{
			plain(),
			"\x02\x00\x00\x00\x0b\x00\x00\x00\x0c\x00\x00\x00\x0d\x00\x00\x00\x0e\x00\x00\x00\x0f\x00\x00\x00" +
				"\x10\x00\x00\x00\x11\x00\x00\x00\x12\x00\x00\x00\x13\x00\x00\x00\x00\x00\x00\x00",
		},
		{
			api.Msg{Kind: 4, From: 0x01020304, Epoch: 0x7fffffff, Vec: []int{-1, 0x0a0b0c0d, -1 << 31, -2, -256}},
			"\x04\x00\x00\x00\x04\x03\x02\x01" + strings.Repeat("\x00", 28) + "\xff\xff\xff\x7f\x05\x00\x00\x00" +
				"\xff\xff\xff\xff\x0d\x0c\x0b\x0a\x00\x00\x00\x80\xfe\xff\xff\xff\x00\xff\xff\xff",
		},
	} {
		s := written(t, c.m)
		if len(s) != len(c.body)+8 || s[4:len(s)-4] != c.body {
			t.Errorf("Put(%+v): % x, not % x", c.m, s, c.body)
		}
		checkPut(t, c.m)
		checkTake(t, s)
	}
	whole := "\x30\x00\x00\x00\x01" + strings.Repeat("\x00", 43) + "\x7e\x5e\x0c\xa9"
	if s := written(t, api.Msg{Kind: 1}); s != whole {
		t.Errorf("% x, not % x", s, whole)
	}
}

// P7.1: each number stands at its own place, in four bytes, the lowest first;
// nothing else hangs on it but the sum.
func TestEachNumberAtItsPlace(t *testing.T) {
	s := written(t, plain(21, 22, 23))
	for i, name := range names {
		n := 0x04030201
		if name == "Kind" {
			n = 3
		}
		other := written(t, with(plain(21, 22, 23), name, n))
		at := 4 + 4*i
		if other[at:at+4] != four(n) {
			t.Errorf("%s: % x at %d", name, other[at:at+4], at)
		}
		if other[:at] != s[:at] || other[at+4:len(other)-4] != s[at+4:len(s)-4] {
			t.Errorf("%s is written at other places, too: % x", name, other)
		}
	}
}

// P7.1: Vec's numbers stand behind how many they are, in their order, each
// below 0 by 2^32 more.
func TestVecAtItsPlace(t *testing.T) {
	for count := range 9 {
		for at := range count {
			for _, c := range []struct {
				n     int
				bytes string
			}{
				{1, "\x01\x00\x00\x00"}, {-1, "\xff\xff\xff\xff"}, {-2, "\xfe\xff\xff\xff"}, {-256, "\x00\xff\xff\xff"},
				{0x04030201, "\x01\x02\x03\x04"}, {-0x04030201, "\xff\xfd\xfc\xfb"},
				{1<<31 - 1, "\xff\xff\xff\x7f"}, {-1 << 31, "\x00\x00\x00\x80"}, {-1<<31 + 1, "\x01\x00\x00\x80"},
			} {
				vec := make([]int, count)
				vec[at] = c.n
				s := written(t, plain(vec...))
				if s[44:48] != four(count) || s[48+4*at:52+4*at] != c.bytes {
					t.Errorf("%d at %d of %d: % x", c.n, at, count, s[44:])
				}
				checkPut(t, plain(vec...))
			}
		}
	}
}

// P7.1: the first number says how many bytes stand behind it, and the last one
// is the Sum of all from Kind on.
func TestFirstAndLast(t *testing.T) {
	for _, m := range messages() {
		s := written(t, m)
		if len(s) != 52+4*len(m.Vec) || s[:4] != four(len(s)-4) {
			t.Errorf("%+v: %d bytes, the first number % x", m, len(s), s[:4])
		}
		end := len(s) - 4
		if s[end:] != four(crc.Sum(s[4:end])) {
			t.Errorf("%+v: the last number is % x", m, s[end:])
		}
	}
}

// P7.1: Right and Put, with each number at its edges and beyond, one at a time.
func TestRightAtEdges(t *testing.T) {
	kinds := []int{0, 1, 4, 5, 2, 3, -1, 6, 255, 256, 257, 1 << 31, 1<<32 + 1, -1<<32 + 1, math.MinInt, math.MaxInt, math.MinInt + 1}
	for _, n := range kinds {
		right := n >= 1 && n <= 4
		if m := with(plain(3), "Kind", n); Right(m) != right {
			t.Errorf("Kind %d: %v", n, !right)
		}
		checkPut(t, with(plain(3), "Kind", n))
		checkPut(t, api.Msg{Kind: n})
	}
	others := []int{-1, 0, 1<<31 - 1, 1 << 31, math.MinInt, math.MaxInt, 1, -1 << 31, -1<<31 - 1, 1<<32 - 1, 1 << 32, 1<<32 + 1, -1 << 32, -1<<32 + 1, -1<<63 + 5}
	for _, name := range names[1:] {
		for _, n := range others {
			right := n >= 0 && n <= 2_147_483_647
			if m := with(plain(3), name, n); Right(m) != right {
				t.Errorf("%s %d: %v", name, n, !right)
			}
			checkPut(t, with(plain(3), name, n))
			checkPut(t, with(api.Msg{Kind: 1}, name, n))
		}
	}
}

// P7.1: Vec of no number up to 8, and of more.
func TestHowManyNumbersVecHas(t *testing.T) {
	checkPut(t, api.Msg{Kind: 1, Vec: nil})
	checkPut(t, api.Msg{Kind: 1, Vec: []int{}})
	for _, count := range []int{0, 1, 2, 3, 4, 5, 6, 7, 8, 9, 10, 16, 255, 256, 257, 264, 65536, 1 << 20} {
		m := plain(make([]int, count)...)
		if Right(m) != (count <= 8) {
			t.Errorf("Vec of %d numbers: %v", count, count > 8)
		}
		checkPut(t, m)
	}
	none, _ := Put(api.Msg{Kind: 1})
	empty, _ := Put(api.Msg{Kind: 1, Vec: []int{}})
	if none != empty {
		t.Errorf("nil: % x, empty: % x", none, empty)
	}
}

// P7.1: a number of Vec at its edges and beyond, at each place.
func TestVecAtEdges(t *testing.T) {
	numbers := []int{-1 << 31, 1<<31 - 1, -1<<31 - 1, 1 << 31, 0, 1, -1, 1<<32 - 1, 1 << 32, -1 << 32, -1<<32 + 1, math.MinInt, math.MaxInt}
	for count := 1; count <= 8; count++ {
		for at := range count {
			for _, n := range numbers {
				vec := make([]int, count)
				vec[at] = n
				right := n >= -2_147_483_648 && n <= 2_147_483_647
				if Right(plain(vec...)) != right {
					t.Errorf("%d at %d of %d: %v", n, at, count, !right)
				}
				checkPut(t, plain(vec...))
			}
		}
	}
}

// P7.1: one number that is wrong is enough, wherever it is, and so are many.
func TestManyWrongNumbers(t *testing.T) {
	for _, m := range []api.Msg{
		{}, {Vec: []int{1}}, {Kind: -1, From: -1, Epoch: 1 << 40, Vec: make([]int, 20)},
		{Kind: 5, Vec: []int{1 << 31}}, with(plain(make([]int, 9)...), "Rank", -1),
	} {
		checkPut(t, m)
		if Right(m) {
			t.Errorf("Right(%+v)", m)
		}
	}
}

// P7.1: fewer than 52 bytes, also where all else is right of them.
func TestTakeOfFew(t *testing.T) {
	refused(t, "no byte", "", api.ErrForm)
	for n := range 52 {
		for _, fill := range []string{"\x00", "\x01", "\xff"} {
			refused(t, "few", strings.Repeat(fill, n), api.ErrForm)
		}
		if n >= 8 {
			refused(t, "few, sealed", sealed(strings.Repeat("\x01", n-8)), api.ErrForm)
			refused(t, "few, sealed", sealed(fours(listed(plain())...)[:n-8]), api.ErrForm)
		}
		if n >= 4 {
			refused(t, "few, as they say", four(n-4)+strings.Repeat("\x00", n-4), api.ErrForm)
		}
	}
	if e := checkTake(t, sealed(fours(listed(plain())...))); e != api.OK {
		t.Errorf("52 bytes: %d", e)
	}
}

// P7.1: a number of bytes that is no multiple of 4.
func TestTakeOfNoWholeNumbers(t *testing.T) {
	for _, m := range messages() {
		body := fours(listed(m)...)
		for more := 1; more < 4; more++ {
			refused(t, "bytes more", sealed(body+strings.Repeat("\x00", more)), api.ErrForm)
			refused(t, "bytes ahead", sealed(strings.Repeat("\x00", more)+body), api.ErrForm)
			refused(t, "bytes less", sealed(body[:len(body)-more]), api.ErrForm)
			refused(t, "bytes more, a wrong sum", four(len(body)+4+more)+body+strings.Repeat("\x00", 4+more), api.ErrForm)
		}
	}
}

// P7.1: a first number that is not how many bytes stand behind it is ErrForm,
// whatever the sum says.
func TestTakeOfAWrongFirstNumber(t *testing.T) {
	for _, m := range messages() {
		s := written(t, m)
		right := len(s) - 4
		for _, n := range []int{
			0, 1, 4, right - 8, right - 4, right - 1, right + 1, right + 4, right + 8, right / 4, right ^ 3,
			right + 1<<8, right + 1<<16, right + 1<<24, right + 1<<31, right << 8, right << 24 % (1 << 32),
			1<<31 - 1, 1 << 31, 1<<32 - 4, 1<<32 - 1, 1<<32 - right,
		} {
			refused(t, "a wrong first number", four(n)+s[4:], api.ErrForm)
			refused(t, "a wrong first number and sum", four(n)+s[4:right]+"\x00\x00\x00\x00", api.ErrForm)
		}
	}
}

// P7.1: a last number that is not the sum is ErrSum, also where the message is
// not right.
func TestTakeOfAWrongSum(t *testing.T) {
	bodies := []string{
		fours(0, 0, 0, 0, 0, 0, 0, 0, 0, 0, 0), fours(5, 0, 0, 0, 0, 0, 0, 0, 0, 0, 0), fours(1, 1<<31, 0, 0, 0, 0, 0, 0, 0, 0, 0),
		fours(1, 0, 0, 0, 0, 0, 0, 0, 0, 0, 1), fours(1, 0, 0, 0, 0, 0, 0, 0, 0, 0, 0, 7), fours(listed(plain(make([]int, 9)...))...),
		fours(1, 0, 0, 0, 0, 0, 0, 0, 0, 0, 1<<32-1), strings.Repeat("\xff", 60),
	}
	for _, m := range messages() {
		bodies = append(bodies, fours(listed(m)...))
	}
	for _, body := range bodies {
		sum, all := crc.Sum(body), sealed(body)
		wrong := []int{sum ^ 1, sum ^ 1<<31, sum ^ (1<<32 - 1), crc.Sum(all[:len(all)-4]), crc.Sum(all), (sum + 1) % (1 << 32), (sum + 1<<16) % (1 << 32), crc.Sum(body[4:]), crc.Sum(body[:len(body)-4])}
		for _, n := range wrong {
			refused(t, "a wrong sum", four(len(body)+4)+body+four(n), api.ErrSum)
		}
		b := []byte(four(sum))
		slices.Reverse(b)
		refused(t, "a sum, the highest first", four(len(body)+4)+body+string(b), api.ErrSum)
	}
}

// P7.1: a right sum of no right message: Kind, and the numbers ahead of Vec.
func TestTakeOfWrongNumbers(t *testing.T) {
	for _, vec := range [][]int{nil, {7}, make([]int, 8)} {
		for _, kind := range []int{0, 5, 6, 255, 256, 257, 1 << 16, 1<<24 + 1, 1 << 31, 1<<31 + 1, 1<<32 - 1} {
			numbers := listed(plain(vec...))
			numbers[0] = kind
			refused(t, "Kind", sealed(fours(numbers...)), api.ErrForm)
		}
		for i := 1; i < len(names); i++ {
			for _, n := range []int{1 << 31, 1<<31 + 1, 1<<32 - 1, 3 << 30} {
				numbers := listed(plain(vec...))
				numbers[i] = n
				refused(t, names[i], sealed(fours(numbers...)), api.ErrForm)
			}
			for _, n := range []int{0, 1<<31 - 1} {
				numbers := listed(plain(vec...))
				numbers[i] = n
				if e := checkTake(t, sealed(fours(numbers...))); e != api.OK {
					t.Errorf("%s %d: %d", names[i], n, e)
				}
			}
		}
	}
}

// P7.1: a right sum of no right message: how many numbers Vec has.
func TestTakeOfAWrongCount(t *testing.T) {
	for there := range 13 {
		for _, says := range []int{0, 1, 2, 3, 4, 5, 6, 7, 8, 9, 10, 11, 12, 255, 256, 256 + there, 1<<16 + there, 1<<24 + there, 1<<30 + there, 1<<31 + there, 1<<31 - 1, 1<<32 - 1, 1<<32 - 4, 1<<32 - 1 - there} {
			numbers := append(listed(plain())[:10], says)
			s := sealed(fours(append(numbers, make([]int, there)...)...))
			if says == there && there <= 8 {
				if e := checkTake(t, s); e != api.OK {
					t.Errorf("%d numbers: %d", there, e)
				}
				continue
			}
			refused(t, "a wrong count", s, api.ErrForm)
		}
	}
	for _, many := range []int{9, 100, 256, 264, 1 << 16, 1 << 20} {
		refused(t, "many", sealed(fours(listed(plain(make([]int, many)...))...)), api.ErrForm)
	}
}

// P7.2: what is written is taken back, and the other way round.
func TestBackAgain(t *testing.T) {
	seen := map[string]api.Msg{}
	for _, m := range messages() {
		checkPut(t, m)
		s := written(t, m)
		if e := checkTake(t, s); e != api.OK {
			t.Errorf("Take(% x): %d", s, e)
		}
		if other, there := seen[s]; there && !same(other, m) {
			t.Errorf("%+v and %+v have the same bytes", other, m)
		}
		seen[s] = m
	}
	next := mixer(20)
	for range 20000 {
		m := mixedMessage(next)
		if !wantRight(m) {
			t.Fatalf("%+v is no right message to begin with", m)
		}
		checkPut(t, m)
		checkTake(t, sealed(fours(listed(m)...)))
	}
}

// P7.2: with any one bit turned, at each place, a message is refused: in the
// first number for its form, else for its sum.
func TestOneBitTurned(t *testing.T) {
	for _, m := range messages() {
		s := written(t, m)
		for bit := range 8 * len(s) {
			want := api.ErrSum
			if bit < 32 {
				want = api.ErrForm
			}
			refused(t, "one bit", turned(s, bit), want)
		}
	}
}

// P7.1: with one bit turned, and the sum made right again, the answer is what
// the bytes say.
func TestOneBitTurnedAndSummed(t *testing.T) {
	for _, m := range messages() {
		body := fours(listed(m)...)
		for bit := range 8 * len(body) {
			checkTake(t, sealed(turned(body, bit)))
		}
	}
}

// P7.2: no beginning of a message's bytes is one, nor what has bytes more.
func TestBeginningsAndMore(t *testing.T) {
	for _, m := range messages() {
		s := written(t, m)
		for n := range len(s) {
			refused(t, "a beginning", s[:n], api.ErrForm)
			refused(t, "an end", s[n+1:], api.ErrForm)
		}
		for n := 1; n < 70; n++ {
			refused(t, "noughts behind", s+strings.Repeat("\x00", n), api.ErrForm)
			refused(t, "ones behind", s+strings.Repeat("\xff", n), api.ErrForm)
		}
		refused(t, "twice", s+s, api.ErrForm)
		refused(t, "many times", strings.Repeat(s, 100), api.ErrForm)
	}
}

// P1: bytes of all lengths and kinds are answered.
func TestTakeOfMixedBytes(t *testing.T) {
	next := mixer(3)
	for n := range 2000 {
		b := make([]byte, n%120)
		for i := range b {
			b[i] = byte(next())
		}
		checkTake(t, string(b))
		checkTake(t, sealed(string(b)))
		if len(b) >= 4 {
			checkTake(t, four(len(b)-4)+string(b[4:]))
		}
	}
}

// R1, R4: what is handed in stays, and an answer is new memory and hangs on
// nothing but what was asked.
func TestNothingIsKept(t *testing.T) {
	vec := []int{1, -2, 3, 99, 99}
	m := plain(vec[:3]...)
	s := written(t, m)
	if !Right(m) || !slices.Equal(vec, []int{1, -2, 3, 99, 99}) {
		t.Errorf("Right or Put has changed %v", vec)
	}
	first, _ := Take(s)
	second, _ := Take(s)
	first.Vec[0] = 1000
	_ = append(first.Vec[:1], 2000, 3000)
	if !same(second, plain(1, -2, 3)) {
		t.Errorf("two answers share memory: %+v", second)
	}
	third, _ := Take(s)
	if !same(third, plain(1, -2, 3)) {
		t.Errorf("Take once more: %+v", third)
	}
	vec[0] = 5
	if s != sealed(fours(listed(plain(1, -2, 3))...)) || s == written(t, m) {
		t.Errorf("bytes hang on what was handed in, or not at all: % x", s)
	}
}

// FuzzTake holds Take against the library's reading of the bytes.
func FuzzTake(f *testing.F) {
	f.Add("")
	for _, m := range messages() {
		s, _ := Put(m)
		f.Add(s)
		f.Add(s[4 : len(s)-4])
	}
	f.Fuzz(func(t *testing.T, s string) {
		checkTake(t, s)
		checkTake(t, sealed(s))
	})
}

// FuzzPut holds Right and Put against the chapter's words.
func FuzzPut(f *testing.F) {
	f.Add(1, 0, 0, 8, -1)
	f.Add(4, 9, math.MaxInt32, 9, math.MinInt32)
	f.Fuzz(func(t *testing.T, kind, place, n, count, v int) {
		m := plain(make([]int, uint(count)%12)...)
		m = with(with(m, names[uint(place)%10], n), "Kind", kind)
		if len(m.Vec) > 0 {
			m.Vec[uint(place)%uint(len(m.Vec))] = v
		}
		checkPut(t, m)
		m.Kind = 1 + int(uint(kind)%4)
		checkPut(t, m)
	})
}
