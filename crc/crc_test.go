package crc

import (
	"hash/crc32"
	"strings"
	"testing"
)

// bits of a number, the lowest first, each of them 0 or 1.
type bits [32]byte

func bitsOf(n int) (b bits) {
	for i := range b {
		b[i] = byte(n >> i & 1)
	}
	return b
}

func (b bits) over(other bits) bits {
	for i := range b {
		b[i] ^= other[i]
	}
	return b
}

func (b bits) number() (n int) {
	for i, bit := range b {
		n += int(bit) << i
	}
	return n
}

// want is P6.1 in its own steps, bit by bit, in the chapter's own numbers.
func want(s string) int {
	ones, poly := bitsOf(4_294_967_295), bitsOf(3_988_292_384)
	sum := ones
	for _, c := range []byte(s) {
		sum = sum.over(bitsOf(int(c)))
		for range 8 {
			fell := sum[0]
			copy(sum[:], sum[1:])
			sum[31] = 0
			if fell == 1 {
				sum = sum.over(poly)
			}
		}
	}
	return sum.over(ones).number()
}

// check holds a sum against the chapter's steps, against the library's sum, and
// against the numbers that 32 bits can tell.
func check(t *testing.T, s string) int {
	t.Helper()
	n := Sum(s)
	if w := want(s); n != w {
		t.Errorf("Sum(%q): %d, not %d", shown(s), n, w)
	}
	if w := int(crc32.ChecksumIEEE([]byte(s))); n != w {
		t.Errorf("Sum(%q): %d, the library says %d", shown(s), n, w)
	}
	if n < 0 || n > 4_294_967_295 {
		t.Errorf("Sum(%q): %d is no number of 32 bits", shown(s), n)
	}
	return n
}

// shown keeps what a test says of a long text short.
func shown(s string) string {
	if len(s) > 60 {
		return s[:60] + "..."
	}
	return s
}

// mixedText is a text of n bytes of all kinds, always the same one.
func mixedText(n int, mixed uint64) string {
	b := make([]byte, n)
	for i := range b {
		mixed = mixed*6364136223846793005 + 1442695040888963407
		b[i] = byte(mixed >> 56)
	}
	return string(b)
}

// texts are short ones of many kinds, in which a bit is turned at each place.
func texts() []string {
	return []string{
		"a", "\x00", "\xff", "ab", "123456789", "switchboard", "experts on many nodes",
		"\x00\x00\x00\x00", "\xff\xff\xff\xff", "\x00\x00\x00\x00\x00\x00\x00\x00", "\x80\x00\x00\x00\x01",
		"\xc3\xa9\xe2\x82\xac\xf0\x9f\x98\x80", "\xc3\x28\xa0\xa1\xff\xfe", "a\nb\r\n\t\x00c",
		mixedText(3, 1), mixedText(32, 2), mixedText(64, 3), mixedText(200, 4),
	}
}

// turned is s with pattern laid over the byte at i.
func turned(s string, i int, pattern byte) string {
	b := []byte(s)
	b[i] ^= pattern
	return string(b)
}

// P6.1: the chapter's example, and sums that are known.
func TestSum(t *testing.T) {
	for _, c := range []struct {
		s   string
		sum int
	}{
		{"123456789", 3_421_780_262}, // the chapter's example
		{"", 0},
		{"a", 0xE8B7BE43}, {"abc", 0x352441C2},
		{"The quick brown fox jumps over the lazy dog", 0x414FA339},
		// Bytes of 0 count, and each of them.
		{"\x00", 0xD202EF8D}, {"\x00\x00", 0x41D912FF}, {"\x00\x00\x00\x00", 0x2144DF1C},
		// Bytes that are no text, up to a sum of nothing but 1.
		{"\xff", 0xFF000000}, {"\xff\xff", 0xFFFF0000}, {"\xff\xff\xff", 0xFFFFFF00}, {"\xff\xff\xff\xff", 0xFFFFFFFF},
		{strings.Repeat("\x00", 32), 0x190A55AD}, {strings.Repeat("\xff", 32), 0xFF6CAB0B},
	} {
		if n := Sum(c.s); n != c.sum {
			t.Errorf("Sum(%q): %#x, not %#x", c.s, n, c.sum)
		}
		check(t, c.s)
	}
}

// P6.1: each single byte, and each pair of bytes, has the sum of the chapter's
// steps, and a sum of its own.
func TestEachByteAndPair(t *testing.T) {
	ones, pairs := map[int]string{}, map[int]string{}
	for i := range 256 {
		one := string([]byte{byte(i)})
		keepUnlike(t, ones, one)
		for j := range 256 {
			keepUnlike(t, pairs, one+string([]byte{byte(j)}))
		}
	}
	if len(ones) != 256 || len(pairs) != 65536 {
		t.Errorf("%d sums of a byte, %d of two", len(ones), len(pairs))
	}
}

func keepUnlike(t *testing.T, seen map[int]string, s string) {
	t.Helper()
	n := check(t, s)
	if other, there := seen[n]; there {
		t.Errorf("%q and %q have the same sum, %d", s, other, n)
	}
	seen[n] = s
}

// P6.1: bytes of 0, ahead of a text and behind it, are bytes like others.
func TestNoughts(t *testing.T) {
	for _, s := range []string{"", "a", "123456789", "\xff", "\x00a\x00", mixedText(40, 5)} {
		ahead, behind := map[int]string{}, map[int]string{}
		for n := range 40 {
			noughts := strings.Repeat("\x00", n)
			keepUnlike(t, ahead, noughts+s)
			keepUnlike(t, behind, s+noughts)
		}
	}
}

// P6.1: bytes, not letters: what is beyond 127, and what is no text in UTF-8,
// is taken byte by byte.
func TestBytesBeyondLetters(t *testing.T) {
	for _, s := range []string{
		"é", "€", "😀", "\u00e9\u20ac", "\xe9", "\x80", "\xc3", "\xe2\x82", "\xf0\x9f\x98", "\xed\xa0\x80",
		"\xc0\x80", "\xfe\xff", "a\xffb", "\ufffd", "é\xc3", "\x7f\x80\x81",
	} {
		check(t, s)
	}
	if Sum("\xe9") == Sum("é") || Sum("\xff") == Sum("\ufffd") {
		t.Error("a byte beyond 127 is summed as a letter")
	}
}

// P6.1: a sum whose highest bit is 1 is not below 0, and both kinds are met.
func TestHighestBit(t *testing.T) {
	high, low := 0, 0
	for n := range 300 {
		sum := check(t, mixedText(n, uint64(n)))
		if sum >= 1<<31 {
			high++
		} else {
			low++
		}
	}
	if high < 100 || low < 100 {
		t.Errorf("%d sums of 2^31 or more, %d below", high, low)
	}
}

// P6.1: each length, up to long ones.
func TestLong(t *testing.T) {
	long := mixedText(70_000, 6)
	for n := range 1100 {
		check(t, long[:n])
	}
	for _, n := range []int{4095, 4096, 4097, 65535, 65536, 65537, 70_000} {
		check(t, long[:n])
		check(t, strings.Repeat("\x00", n))
		check(t, strings.Repeat("\xff", n))
	}
	huge := mixedText(1<<22, 7)
	if n := Sum(huge); n != int(crc32.ChecksumIEEE([]byte(huge))) {
		t.Errorf("Sum of %d bytes: %d", len(huge), n)
	}
}

// P6.2: each one bit that is turned, at each place, makes another sum, and no
// two of them the same one.
func TestOneBitTurned(t *testing.T) {
	for _, s := range texts() {
		seen := map[int]string{Sum(s): s}
		for i := range len(s) {
			for bit := range 8 {
				keepUnlike(t, seen, turned(s, i, 1<<bit))
			}
		}
	}
}

// P6.2: one bit is told in a long text, too, wherever it is.
func TestOneBitTurnedInALongText(t *testing.T) {
	s := mixedText(4096, 8)
	sum := Sum(s)
	for i := 0; i < len(s); i += 13 {
		if Sum(turned(s, i, 1<<(i%8))) == sum {
			t.Errorf("bit %d of byte %d is turned, and not told", i%8, i)
		}
	}
	for bit := range 8 {
		if Sum(turned(s, 0, 1<<bit)) == sum || Sum(turned(s, len(s)-1, 1<<bit)) == sum {
			t.Errorf("bit %d of the first or last byte is turned, and not told", bit)
		}
	}
}

// P6.2, and what the 32 bits tell beyond it: two bytes turned side by side.
func TestTwoBytesTurned(t *testing.T) {
	for _, s := range texts() {
		sum := Sum(s)
		for i := 0; i+1 < len(s); i++ {
			for p := 1; p < 256; p += 2 {
				two := turned(turned(s, i, byte(p)), i+1, byte(p*7+1))
				if Sum(two) == sum {
					t.Errorf("%q and %q have the same sum", s, two)
				}
			}
		}
	}
	const s = "12"
	for p := 1; p < 65536; p++ {
		two := turned(turned(s, 0, byte(p>>8)), 1, byte(p))
		if Sum(two) == Sum(s) {
			t.Errorf("%q and %q have the same sum", s, two)
		}
	}
}

// P6.2: texts of unlike last bytes, else the same, have unlike sums; so do
// those of unlike first bytes.
func TestUnlikeLastBytes(t *testing.T) {
	for _, s := range append(texts(), "") {
		last, first := map[int]string{}, map[int]string{}
		for i := range 256 {
			one := string([]byte{byte(i)})
			keepUnlike(t, last, s+one)
			keepUnlike(t, first, one+s)
		}
	}
}

// P6.1: the order of bytes counts.
func TestOrder(t *testing.T) {
	for _, pair := range [][2]string{{"ab", "ba"}, {"123456789", "987654321"}, {"\x00a", "a\x00"}} {
		if Sum(pair[0]) == Sum(pair[1]) {
			t.Errorf("%q and %q have the same sum", pair[0], pair[1])
		}
	}
}

// R4: a sum hangs on its bytes alone, whatever was summed ahead of it, and
// wherever the bytes lie.
func TestNothingIsKept(t *testing.T) {
	all := texts()
	before := make([]int, len(all))
	for i, s := range all {
		before[i] = Sum(s)
	}
	for i := len(all) - 1; i >= 0; i-- {
		piece := ("x" + all[i] + "y")[1 : 1+len(all[i])]
		if n := Sum(piece); n != before[i] {
			t.Errorf("Sum(%q): %d, and then %d", all[i], before[i], n)
		}
	}
}

// FuzzSum holds sums, and those of one turned bit, against the chapter's steps.
func FuzzSum(f *testing.F) {
	for i, s := range texts() {
		f.Add(s, i)
	}
	f.Add("", 0)
	f.Fuzz(func(t *testing.T, s string, place int) {
		sum := check(t, s)
		if len(s) == 0 {
			return
		}
		at := int(uint(place) % uint(8*len(s)))
		if check(t, turned(s, at/8, 1<<(at%8))) == sum {
			t.Errorf("bit %d of %q is turned, and not told", at, s)
		}
	})
}
