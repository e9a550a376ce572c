package chunk

import (
	"bytes"
	"encoding/binary"
	"fmt"
	"hash/crc32"
	"math"
	"slices"
	"strings"
	"testing"

	"switchboard/api"
	"switchboard/crc"
	"switchboard/expert"
)

const (
	one = 65536
	top = 2147483647
)

// edges are the numbers that may stand in a right expert and at which its bytes
// turn: around 0, each byte's end and Top, on both sides.
func edges() []int {
	return []int{
		0, 1, -1, 127, 128, -128, 255, 256, 257, -255, -256, -257, 65535, 65536, 65537, -65535, -65536, -65537,
		1<<24 - 1, 1 << 24, -1 << 24, -1<<24 - 1, 0x04030201, -0x04030201, 1 << 30, -1 << 30, top - 1, 1 - top, top, -top,
	}
}

// beyond are those that may not.
func beyond() []int {
	return []int{
		top + 1, -top - 1, top + 2, -top - 2, 1<<32 - 1, 1 << 32, 1<<32 + 1, -1 << 32, 1 - 1<<32, 1 << 40, -1 << 40,
		math.MaxInt, math.MaxInt - 1, math.MinInt, math.MinInt + 1,
	}
}

// counts are those of rows, or of numbers in a row, that no right expert has,
// as they stand in four bytes: 0, more than 8, below 0, and great.
func counts() []int {
	return []int{
		0, 9, 10, 16, 64, 255, 256, 257, 264, 65536, 65537, 1 << 24, 1<<24 + 1, 1 << 29, 1 << 30, 1<<30 + 1, 1<<31 - 1, 1 << 31,
		1<<31 + 1, 3 << 30, 1<<32 - 9, 1<<32 - 8, 1<<32 - 2, 1<<32 - 1,
	}
}

// mixed gives numbers that are always the same ones for a seed.
type mixed uint64

func (m *mixed) next(below int) int {
	*m = *m*6364136223846793005 + 1442695040888963407
	return int(uint64(*m)>>33) % below
}

func (m *mixed) number() int {
	switch m.next(3) {
	case 0:
		return m.next(21) - 10
	case 1:
		return edges()[m.next(len(edges()))]
	}
	return m.next(top) - m.next(top)
}

func (m *mixed) rows(many, long int) [][]int {
	l := make([][]int, many)
	for i := range l {
		l[i] = make([]int, long)
		for k := range l[i] {
			l[i][k] = m.number()
		}
	}
	return l
}

func (m *mixed) bytes(many int) string {
	b := make([]byte, many)
	for i := range b {
		b[i] = byte(m.next(256))
	}
	return string(b)
}

// made is an expert of so many numbers a token and so many rows of In.
func made(seed, dim, inner int) api.Expert {
	m := mixed(seed)
	return api.Expert{In: m.rows(inner, dim), Out: m.rows(dim, inner)}
}

// alike is an expert with one number at all places.
func alike(n, dim, inner int) api.Expert {
	x := made(0, dim, inner)
	for _, row := range slices.Concat(x.In, x.Out) {
		for i := range row {
			row[i] = n
		}
	}
	return x
}

func copied(x api.Expert) api.Expert {
	rows := func(m [][]int) [][]int {
		l := slices.Clone(m)
		for i := range l {
			l[i] = slices.Clone(l[i])
		}
		return l
	}
	return api.Expert{In: rows(x.In), Out: rows(x.Out)}
}

func same(x, y api.Expert) bool {
	return slices.EqualFunc(x.In, y.In, slices.Equal) && slices.EqualFunc(x.Out, y.Out, slices.Equal)
}

// shown keeps what a test says short.
func shown(x any) string {
	switch x := x.(type) {
	case string:
		return fmt.Sprintf("%d bytes, % x", len(x), x[:min(len(x), 140)])
	case []string:
		return fmt.Sprintf("%d texts, %.300s", len(x), fmt.Sprintf("%q", x[:min(len(x), 40)]))
	}
	return fmt.Sprintf("%.300s", fmt.Sprint(x))
}

// four is a number's four bytes, the lowest first, worked out by dividing.
func four(n int) string {
	if n < 0 {
		n += 4_294_967_296
	}
	var b [4]byte
	for i := range b {
		b[i] = byte(n % 256)
		n /= 256
	}
	return string(b[:])
}

func fours(numbers ...int) string {
	var b strings.Builder
	for _, n := range numbers {
		b.WriteString(four(n))
	}
	return b.String()
}

// sealed lays a right sum behind bytes, spoiled one that is not right.
func sealed(body string) string {
	return body + four(int(crc32.ChecksumIEEE([]byte(body))))
}

func spoiled(body string) string {
	return body + four(int(crc32.ChecksumIEEE([]byte(body))^0x00010000))
}

// turned is s with one bit turned.
func turned(s string, bit int) string {
	b := []byte(s)
	b[bit/8] ^= 1 << (bit % 8)
	return string(b)
}

// listed is the numbers of an expert, in the chapter's order, but the sum.
func listed(x api.Expert, dim int) []int {
	l := []int{len(x.In), dim}
	for _, row := range slices.Concat(x.In, x.Out) {
		l = append(l, row...)
	}
	return l
}

// wantRight is layer 11's promise, without that layer.
func wantRight(x api.Expert, dim int) bool {
	right := dim >= 1 && dim <= 8 && len(x.In) >= 1 && len(x.In) <= 8 && len(x.Out) == dim
	for _, row := range x.In {
		right = right && len(row) == dim
	}
	for _, row := range x.Out {
		right = right && len(row) == len(x.In)
	}
	for _, row := range slices.Concat(x.In, x.Out) {
		for _, n := range row {
			right = right && n >= -top && n <= top
		}
	}
	return right
}

// wantImport is P16.1 of bytes, read by the library: numbers are handed out one
// after the other, for as long as there are some.
func wantImport(s string) (api.Expert, int, api.Errno) {
	if len(s) < 12 || len(s)%4 != 0 {
		return api.Expert{}, 0, api.ErrForm
	}
	numbers := make([]int32, len(s)/4)
	binary.Read(strings.NewReader(s), binary.LittleEndian, numbers)
	last := len(numbers) - 1
	if uint32(numbers[last]) != crc32.ChecksumIEEE([]byte(s[:4*last])) {
		return api.Expert{}, 0, api.ErrSum
	}
	inner, dim, rest := int(numbers[0]), int(numbers[1]), numbers[2:last]
	if inner < 1 || inner > 8 || dim < 1 || dim > 8 || len(rest) != inner*dim+dim*inner {
		return api.Expert{}, 0, api.ErrForm
	}
	rows := func(many, long int) (l [][]int) {
		for range many {
			var row []int
			for range long {
				row = append(row, int(rest[0]))
				rest = rest[1:]
			}
			l = append(l, row)
		}
		return l
	}
	x := api.Expert{In: rows(inner, dim), Out: rows(dim, inner)}
	if !wantRight(x, dim) {
		return api.Expert{}, 0, api.ErrForm
	}
	return x, dim, api.OK
}

// wantCut is P16.2, by the library.
func wantCut(s string, size int) ([]string, bool) {
	if size < 1 || size > 64 {
		return nil, false
	}
	var l []string
	for piece := range slices.Chunk([]byte(s), size) {
		l = append(l, string(piece))
	}
	return l, true
}

// wantJoin lays texts behind one another byte by byte.
func wantJoin(l []string) string {
	var b bytes.Buffer
	for _, s := range l {
		b.WriteString(s)
	}
	return b.String()
}

// checkExport holds Export against the chapter, twice, and what was handed in
// against what it was; what is right is read back.
func checkExport(t *testing.T, x api.Expert, dim int) string {
	t.Helper()
	was, want, errno := copied(x), "", api.ErrArg
	if wantRight(x, dim) {
		want, errno = sealed(fours(listed(x, dim)...)), api.OK
	}
	for range 2 {
		if s, e := Export(x, dim); s != want || e != errno {
			t.Fatalf("Export(%s, %d): %s, %d, not %s, %d", shown(was), dim, shown(s), e, shown(want), errno)
		}
	}
	if !same(x, was) {
		t.Fatalf("Export(%s, %d): it is now %s", shown(was), dim, shown(x))
	}
	if errno == api.OK {
		if y, d, e := Import(want); !same(y, was) || d != dim || e != api.OK {
			t.Fatalf("Import of Export(%s, %d): %s, %d, %d", shown(was), dim, shown(y), d, e)
		}
	}
	return want
}

// checkImport holds Import against the chapter, twice; what is read is written
// back.
func checkImport(t *testing.T, s string) api.Errno {
	t.Helper()
	want, dim, errno := wantImport(s)
	for range 2 {
		x, d, e := Import(s)
		if !same(x, want) || d != dim || e != errno {
			t.Fatalf("Import(%s): %s, %d, %d, not %s, %d, %d", shown(s), shown(x), d, e, shown(want), dim, errno)
		}
		if e != api.OK && (len(x.In) != 0 || len(x.Out) != 0 || d != 0) {
			t.Fatalf("Import(%s): %s, %d beside error %d", shown(s), shown(x), d, e)
		}
		if e != api.OK {
			continue
		}
		if !expert.Right(x, d) {
			t.Fatalf("Import(%s): %s, %d is not right", shown(s), shown(x), d)
		}
		if back, e := Export(x, d); back != s || e != api.OK {
			t.Fatalf("Export of Import(%s): %s, %d", shown(s), shown(back), e)
		}
	}
	return errno
}

// refused holds that these bytes are no expert, and why.
func refused(t *testing.T, what, s string, want api.Errno) {
	t.Helper()
	if e := checkImport(t, s); e != want {
		t.Fatalf("%s: Import(%s): error %d, not %d", what, shown(s), e, want)
	}
}

// checkCut holds Cut against the library, twice, and by what the promise says
// of the pieces; they are joined again.
func checkCut(t *testing.T, s string, size int) []string {
	t.Helper()
	want, right := wantCut(s, size)
	var l []string
	for range 2 {
		var ok bool
		if l, ok = Cut(s, size); !slices.Equal(l, want) || ok != right {
			t.Fatalf("Cut(%s, %d): %d pieces, %t, not %d, %t", shown(s), size, len(l), ok, len(want), right)
		}
	}
	if !right {
		return l
	}
	for i, piece := range l {
		if len(piece) == 0 || len(piece) > size || i < len(l)-1 && len(piece) != size {
			t.Fatalf("Cut(%s, %d): the piece %d of %d has %d bytes", shown(s), size, i, len(l), len(piece))
		}
	}
	if joined := checkJoin(t, l); joined != s {
		t.Fatalf("Join of Cut(%s, %d): %s", shown(s), size, shown(joined))
	}
	return l
}

func checkJoin(t *testing.T, l []string) string {
	t.Helper()
	was, want := slices.Clone(l), wantJoin(l)
	for range 2 {
		if s := Join(l); s != want {
			t.Fatalf("Join(%s): %s, not %s", shown(was), shown(s), shown(want))
		}
	}
	if !slices.Equal(l, was) {
		t.Fatalf("Join(%s): it is now %s", shown(was), shown(l))
	}
	return want
}

// written is a right expert's bytes.
func written(t *testing.T, x api.Expert, dim int) string {
	t.Helper()
	s, e := Export(x, dim)
	if e != api.OK {
		t.Fatalf("Export(%s, %d): %d", shown(x), dim, e)
	}
	return s
}

// eachSize hands to visit all that a right expert's sizes may be.
func eachSize(visit func(dim, inner int)) {
	for dim := 1; dim <= 8; dim++ {
		for inner := 1; inner <= 8; inner++ {
			visit(dim, inner)
		}
	}
}

// P16.1: whole experts, written out with their sums.
func TestBytesWrittenOut(t *testing.T) {
	for _, c := range []struct {
		in, out [][]int
		dim     int
		bytes   string
	}{
		{[][]int{{one}}, [][]int{{2 * one}}, 1, "\x01\x00\x00\x00\x01\x00\x00\x00\x00\x00\x01\x00\x00\x00\x02\x00\x8c\x27\x1c\x20"},
		{
			[][]int{{1, -2}}, [][]int{{3}, {top}}, 2,
			"\x01\x00\x00\x00\x02\x00\x00\x00\x01\x00\x00\x00\xfe\xff\xff\xff\x03\x00\x00\x00\xff\xff\xff\x7f\xc5\x99\x41\xe4",
		},
	} {
		x := api.Expert{In: c.in, Out: c.out}
		if s, e := Export(x, c.dim); s != c.bytes || e != api.OK {
			t.Errorf("Export(%v, %d): % x, %d, not % x", x, c.dim, s, e, c.bytes)
		}
		if y, dim, e := Import(c.bytes); !same(y, x) || dim != c.dim || e != api.OK {
			t.Errorf("Import(% x): %v, %d, %d, not %v", c.bytes, y, dim, e, x)
		}
		checkExport(t, x, c.dim)
		checkImport(t, c.bytes)
	}
}

// P16.1: each number in four bytes, the lowest first, one below 0 by 2^32 more,
// at each place, and nothing else hangs on it but the sum.
func TestEachNumberAtItsPlace(t *testing.T) {
	cases := []struct {
		n     int
		bytes string
	}{
		{0, "\x00\x00\x00\x00"}, {1, "\x01\x00\x00\x00"}, {255, "\xff\x00\x00\x00"}, {256, "\x00\x01\x00\x00"},
		{65535, "\xff\xff\x00\x00"}, {65536, "\x00\x00\x01\x00"}, {0x04030201, "\x01\x02\x03\x04"}, {top, "\xff\xff\xff\x7f"},
		{-1, "\xff\xff\xff\xff"}, {-256, "\x00\xff\xff\xff"}, {-0x04030201, "\xff\xfd\xfc\xfb"}, {-top, "\x01\x00\x00\x80"},
	}
	eachSize(func(dim, inner int) {
		x := alike(7, dim, inner)
		plain := written(t, x, dim)
		for _, c := range cases {
			at := 8
			for _, row := range slices.Concat(x.In, x.Out) {
				for k := range row {
					row[k] = c.n
					s, end := written(t, x, dim), len(plain)-4
					if s[:at] != plain[:at] || s[at:at+4] != c.bytes || s[at+4:end] != plain[at+4:end] || len(s) != len(plain) {
						t.Fatalf("%d and %d: %d at the byte %d: %s", dim, inner, c.n, at, shown(s))
					}
					if y, d, e := Import(s); !same(y, x) || d != dim || e != api.OK {
						t.Fatalf("%d and %d: %d at the byte %d: %s, %d, %d", dim, inner, c.n, at, shown(y), d, e)
					}
					row[k] = 7
					at += 4
				}
			}
		}
	})
}

// P16.1: of all sizes: how many bytes there are, that the first two numbers say
// how many rows In has and how many numbers each, and that the last one is
// layer 6's Sum of all bytes ahead.
func TestSizes(t *testing.T) {
	eachSize(func(dim, inner int) {
		for seed := range 8 {
			x := made(seed*100+dim*10+inner, dim, inner)
			s := checkExport(t, x, dim)
			if len(s) != 4*(3+2*dim*inner) {
				t.Fatalf("%d and %d: %d bytes", dim, inner, len(s))
			}
			end := len(s) - 4
			if s[:4] != four(inner) || s[4:8] != four(dim) || s[end:] != four(crc.Sum(s[:end])) {
				t.Fatalf("%d and %d: %s", dim, inner, shown(s))
			}
		}
	})
}

// P16.1: In's numbers stand row by row ahead of Out's, row by row.
func TestOrder(t *testing.T) {
	eachSize(func(dim, inner int) {
		x, n := alike(0, dim, inner), 0
		for _, row := range slices.Concat(x.In, x.Out) {
			for k := range row {
				n++
				row[k] = n
			}
		}
		numbers := []int{inner, dim}
		for i := 1; i <= n; i++ {
			numbers = append(numbers, i)
		}
		body := fours(numbers...)
		if s := written(t, x, dim); s[:len(s)-4] != body {
			t.Errorf("%d and %d: %s", dim, inner, shown(s))
		}
		if y, d, e := Import(sealed(body)); !same(y, x) || d != dim || e != api.OK {
			t.Errorf("%d and %d: %s, %d, %d", dim, inner, shown(y), d, e)
		}
	})
}

// exportRefused holds that there are no bytes of an expert.
func exportRefused(t *testing.T, what string, x api.Expert, dim int) {
	t.Helper()
	checkExport(t, x, dim)
	if s, e := Export(x, dim); s != "" || e != api.ErrArg {
		t.Fatalf("%s: Export(%s, %d): %s, %d", what, shown(x), dim, shown(s), e)
	}
}

// P16.1, Export: a dim that there is no right expert for, or that this one is
// not right for.
func TestExportOfAWrongDim(t *testing.T) {
	dims := []int{
		0, -1, -8, 9, 10, 16, 64, 256, top, top + 1, 1 << 32, -top, -1 << 32, math.MaxInt, math.MinInt, math.MinInt + 1,
		1<<32 + 1, 1<<32 + 8, 1 - 1<<32, math.MinInt + 8,
	}
	eachSize(func(dim, inner int) {
		x := made(dim+inner, dim, inner)
		for _, other := range append(dims, 1, 2, 3, 4, 5, 6, 7, 8, 1<<32+dim, -dim) {
			if other != dim {
				exportRefused(t, "another dim", x, other)
			}
		}
	})
	exportRefused(t, "rows of 9", made(9, 9, 8), 9)
	exportRefused(t, "rows of 9, one alone", made(9, 9, 1), 9)
	for _, dim := range append(dims, 1, 2, 8) {
		exportRefused(t, "the zero value", api.Expert{}, dim)
		exportRefused(t, "no rows", api.Expert{In: [][]int{}, Out: [][]int{}}, dim)
		exportRefused(t, "rows of none", api.Expert{In: [][]int{{}}, Out: [][]int{{}}}, dim)
		exportRefused(t, "In alone of none", api.Expert{In: [][]int{nil}}, dim)
	}
}

// P16.1, Export: how many rows there are.
func TestExportOfWrongRows(t *testing.T) {
	eachSize(func(dim, inner int) {
		x := made(3*dim+inner, dim, inner)
		exportRefused(t, "In nil", api.Expert{Out: x.Out}, dim)
		exportRefused(t, "In empty", api.Expert{In: [][]int{}, Out: make([][]int, dim)}, dim)
		exportRefused(t, "Out nil", api.Expert{In: x.In}, dim)
		exportRefused(t, "Out empty", api.Expert{In: x.In, Out: [][]int{}}, dim)
		for _, many := range []int{9, 10, 100} {
			exportRefused(t, "many rows", made(many, dim, many), dim)
		}
		for _, many := range []int{inner - 1, inner + 1} {
			exportRefused(t, "In of other rows than Out's", api.Expert{In: made(1, dim, many).In, Out: x.Out}, dim)
		}
		for _, many := range []int{dim - 1, dim + 1, dim + 8} {
			exportRefused(t, "Out of other rows", api.Expert{In: x.In, Out: made(1, many, inner).Out}, dim)
		}
		if dim != inner {
			exportRefused(t, "each in the other's place", api.Expert{In: x.Out, Out: x.In}, dim)
		}
	})
}

// P16.1, Export: one row of In, or of Out, too short or too long, and one number
// beyond Top, wherever it is.
func TestExportOfAWrongRow(t *testing.T) {
	eachSize(func(dim, inner int) {
		x := made(5*dim+inner, dim, inner)
		for _, rows := range [][][]int{x.In, x.Out} {
			for i, row := range rows {
				for _, other := range [][]int{row[:len(row)-1], append(slices.Clone(row), 0), nil, {}, make([]int, 100)} {
					rows[i] = other
					exportRefused(t, "a row", x, dim)
				}
				rows[i] = row
				for k, n := range row {
					for _, row[k] = range beyond() {
						exportRefused(t, "a number", x, dim)
					}
					row[k] = n
				}
			}
		}
		checkExport(t, x, dim)
		written(t, x, dim)
	})
}

// P16.1, Import: fewer than 12 bytes, or not a multiple of 4, whatever the sum
// is.
func TestImportOfAWrongLength(t *testing.T) {
	long := written(t, made(1, 8, 8), 8)
	for n := range 700 {
		if n >= 12 && n%4 == 0 {
			continue
		}
		m := mixed(n)
		for _, s := range []string{m.bytes(n), strings.Repeat("\x00", n), strings.Repeat("\xff", n), long[:min(n, len(long))]} {
			if len(s) == n {
				refused(t, "a length", s, api.ErrForm)
			}
		}
		if n >= 4 {
			for _, body := range []string{m.bytes(n - 4), strings.Repeat("\x00", n-4)} {
				refused(t, "a length with a right sum", sealed(body), api.ErrForm)
				refused(t, "a length with a wrong sum", spoiled(body), api.ErrForm)
			}
		}
	}
	eachSize(func(dim, inner int) {
		body := fours(listed(made(inner, dim, inner), dim)...)
		for by := 1; by < 4; by++ {
			m := mixed(by)
			for _, other := range []string{body + m.bytes(by), m.bytes(by) + body, body[:len(body)-by], body[by:]} {
				refused(t, "a length with a right sum", sealed(other), api.ErrForm)
				refused(t, "a length with a wrong sum", spoiled(other), api.ErrForm)
			}
		}
	})
}

// P16.1, Import: 12 bytes have no room for an expert's numbers, whatever they
// say; a product of the two that wraps round to 0 does not help.
func TestImportOf12Bytes(t *testing.T) {
	all := append(counts(), 1, 2, 3, 4, 5, 6, 7, 8)
	for _, inner := range all {
		for _, dim := range all {
			body := fours(inner, dim)
			refused(t, "12 bytes with a right sum", sealed(body), api.ErrForm)
			refused(t, "12 bytes with a wrong sum", spoiled(body), api.ErrSum)
		}
	}
}

// P16.1, Import: with a right sum, rows and numbers in a row of which there is
// no right expert, of as many numbers as are asked for, and of others.
func TestImportOfWrongCounts(t *testing.T) {
	try := func(inner, dim, many int) {
		m := mixed(many)
		body := fours(inner, dim) + fours(m.rows(1, many)[0]...)
		refused(t, "counts with a right sum", sealed(body), api.ErrForm)
		refused(t, "counts with a wrong sum", spoiled(body), api.ErrSum)
	}
	for _, wrong := range counts() {
		for right := 1; right <= 8; right++ {
			for _, many := range []int{0, 1, 2, 2 * right, 2 * right * right, 16 * right, 2 * right * (wrong % 256), 18 * right, 128, 144} {
				try(wrong, right, many)
				try(right, wrong, many)
			}
			if wrong < 300 {
				try(wrong, right, 2*wrong*right)
				try(right, wrong, 2*wrong*right)
			}
		}
		for _, other := range counts() {
			for _, many := range []int{0, 1, 2, 16, 162, 128} {
				try(wrong, other, many)
			}
		}
	}
	// Both below 0: their product would be right.
	for inner := 1; inner <= 8; inner++ {
		for dim := 1; dim <= 8; dim++ {
			try(-inner, -dim, 2*inner*dim)
			try(-inner, dim, 2*inner*dim)
			try(inner, -dim, 2*inner*dim)
		}
	}
}

// P16.1, Import: fewer and more bytes than rows and dim ask for.
func TestImportOfFewerAndMore(t *testing.T) {
	eachSize(func(dim, inner int) {
		numbers := listed(made(dim-inner, dim, inner), dim)
		for many := 2; many < len(numbers); many++ {
			refused(t, "fewer", sealed(fours(numbers[:many]...)), api.ErrForm)
			refused(t, "fewer, with a wrong sum", spoiled(fours(numbers[:many]...)), api.ErrSum)
		}
		for many := 1; many < 20; many++ {
			more := append(slices.Clone(numbers), make([]int, many)...)
			refused(t, "more", sealed(fours(more...)), api.ErrForm)
			refused(t, "more, with a wrong sum", spoiled(fours(more...)), api.ErrSum)
		}
		refused(t, "twice", sealed(fours(slices.Concat(numbers, numbers)...)), api.ErrForm)
		refused(t, "sealed twice", sealed(sealed(fours(numbers...))), api.ErrForm)
	})
	refused(t, "very many", sealed(fours(8, 8)+strings.Repeat("\x01", 1<<22)), api.ErrForm)
	refused(t, "very many, with a wrong sum", spoiled(strings.Repeat("\x01", 1<<22)), api.ErrSum)
}

// P16.1, Import: -2^31 fits into four bytes, but no right expert has it; what is
// beside it on either side is right.
func TestImportOfTheLowest(t *testing.T) {
	eachSize(func(dim, inner int) {
		numbers := listed(made(dim*inner, dim, inner), dim)
		for i := 2; i < len(numbers); i++ {
			was := numbers[i]
			numbers[i] = -1 << 31
			refused(t, "-2^31", sealed(fours(numbers...)), api.ErrForm)
			refused(t, "-2^31, with a wrong sum", spoiled(fours(numbers...)), api.ErrSum)
			for _, numbers[i] = range []int{-top, top} {
				if e := checkImport(t, sealed(fours(numbers...))); e != api.OK {
					t.Errorf("%d at %d: %d", numbers[i], i, e)
				}
			}
			numbers[i] = was
		}
	})
}

// P16.1, Import: of a right expert's bytes it, and its dim; with another last
// number ErrSum, and nothing.
func TestImport(t *testing.T) {
	eachSize(func(dim, inner int) {
		x := made(7*dim+inner, dim, inner)
		body := fours(listed(x, dim)...)
		if y, d, e := Import(sealed(body)); !same(y, x) || d != dim || e != api.OK {
			t.Fatalf("%d and %d: %s, %d, %d", dim, inner, shown(y), d, e)
		}
		right := int(crc32.ChecksumIEEE([]byte(body)))
		for _, sum := range []int{0, 1, right + 1, right - 1, right ^ 1<<31, right ^ 1, ^right & 0xffffffff, 0xffffffff} {
			refused(t, "another sum", body+four(sum), api.ErrSum)
		}
		refused(t, "the sum's bytes the other way round", body+four(int(binary.BigEndian.Uint32([]byte(four(right))))), api.ErrSum)
		refused(t, "the sum of what is behind the head", body+four(crc.Sum(body[8:])), api.ErrSum)
		refused(t, "no sum", body, api.ErrSum)
	})
}

// texts are of letters, of what is none in any alphabet, and of bytes of 0 and
// of 255.
func texts(long int) []string {
	m := mixed(long)
	letters := strings.Repeat("abcdefghijklmnopqrstuvwxyz", long/26+1)[:long]
	wide := strings.Repeat("\u00e9\u20ac\U0001f600", long/9+1)[:long]
	return []string{letters, wide, strings.Repeat("\x00", long), strings.Repeat("\xff", long), strings.Repeat("\xff\x00", long)[:long], m.bytes(long)}
}

// P16.2: the chapter's example, and others written out.
func TestCutWrittenOut(t *testing.T) {
	sixtyFour := strings.Repeat("x", 64)
	for _, c := range []struct {
		s    string
		size int
		want []string
	}{
		{"abc", 2, []string{"ab", "c"}},
		{"abc", 1, []string{"a", "b", "c"}}, {"abc", 3, []string{"abc"}}, {"abc", 4, []string{"abc"}}, {"abc", 64, []string{"abc"}},
		{"abcd", 2, []string{"ab", "cd"}}, {"abcde", 2, []string{"ab", "cd", "e"}}, {"a", 1, []string{"a"}},
		{"", 1, nil}, {"", 64, nil},
		{"\x00\xff\x00", 2, []string{"\x00\xff", "\x00"}}, {"\u20ac", 2, []string{"\xe2\x82", "\xac"}},
		{sixtyFour, 64, []string{sixtyFour}}, {sixtyFour + "y", 64, []string{sixtyFour, "y"}},
		{sixtyFour, 63, []string{sixtyFour[1:], "x"}}, {sixtyFour + sixtyFour, 64, []string{sixtyFour, sixtyFour}},
	} {
		if l := checkCut(t, c.s, c.size); !slices.Equal(l, c.want) {
			t.Errorf("Cut(%q, %d): %q, not %q", c.s, c.size, l, c.want)
		}
		if s := checkJoin(t, c.want); s != c.s {
			t.Errorf("Join(%q): %q", c.want, s)
		}
	}
	if api.MaxChunk != 64 {
		t.Errorf("MaxChunk is %d", api.MaxChunk)
	}
}

// P16.2, Cut: a size that is not from 1 to 64.
func TestCutOfAWrongSize(t *testing.T) {
	for _, size := range []int{
		0, -1, -2, -64, 65, 66, 128, 1000, top, top + 1, -top, 1 << 32, 1<<32 + 1, 1<<32 + 64, -1 << 32, 1 - 1<<32, 256, 257,
		math.MinInt, math.MinInt + 1, math.MinInt + 64, math.MaxInt, math.MaxInt - 1,
	} {
		for _, long := range []int{0, 1, 2, 64, 65, 66, 1000} {
			for _, s := range texts(long) {
				if l, ok := Cut(s, size); len(l) != 0 || ok {
					t.Errorf("Cut of %d bytes, %d: %q, %t", long, size, l, ok)
				}
				checkCut(t, s, size)
			}
		}
	}
}

// P16.2, Cut: each size, of no bytes, of fewer than size, of just as many, one
// more, a multiple and what is around it.
func TestCutBySizes(t *testing.T) {
	for size := 1; size <= 64; size++ {
		for _, many := range []int{0, 1, 2, 3, 10} {
			for _, by := range []int{-1, 0, 1} {
				long := many*size + by
				if long < 0 {
					continue
				}
				for _, s := range texts(long) {
					l, ok := Cut(s, size)
					if !ok || len(l) != (long+size-1)/size {
						t.Fatalf("Cut of %d bytes, %d: %d pieces, %t", long, size, len(l), ok)
					}
					checkCut(t, s, size)
				}
			}
		}
	}
	for _, size := range []int{1, 2, 63, 64} {
		if l := checkCut(t, strings.Repeat("ab", 1<<17), size); len(l) != (1<<18+size-1)/size {
			t.Errorf("Cut of 2^18 bytes, %d: %d", size, len(l))
		}
	}
}

// P16.2, Join: none, one, many, empty ones among them; pieces need not be
// equally long, nor short.
func TestJoin(t *testing.T) {
	long := strings.Repeat("\xff\x00z", 1000)
	for _, c := range []struct {
		l    []string
		want string
	}{
		{nil, ""}, {[]string{}, ""}, {[]string{""}, ""}, {[]string{"", "", ""}, ""},
		{[]string{"a"}, "a"}, {[]string{"ab", "c"}, "abc"}, {[]string{"c", "ab"}, "cab"}, {[]string{"a", "a"}, "aa"},
		{[]string{"", "a"}, "a"}, {[]string{"a", ""}, "a"}, {[]string{"", "a", "", "", "b", ""}, "ab"},
		{[]string{"\x00", "\xff", "\x00\x00"}, "\x00\xff\x00\x00"}, {[]string{"\xe2", "\x82", "\xac"}, "\u20ac"},
		{[]string{long, "b", long}, long + "b" + long}, {[]string{" ", "\n", ","}, " \n,"},
	} {
		if s := Join(c.l); s != c.want {
			t.Errorf("Join(%s): %s", shown(c.l), shown(s))
		}
		checkJoin(t, c.l)
	}
	m, many := mixed(4), []string(nil)
	for range 3000 {
		many = append(many, m.bytes(m.next(70)))
		if m.next(3) == 0 {
			many = append(many, "")
		}
	}
	checkJoin(t, many)
	for n := range 100 {
		checkJoin(t, many[n:2*n])
	}
}

// P16.3: what is exported, cut by each size, joined and imported is the expert,
// and its dim.
func TestThereAndBack(t *testing.T) {
	eachSize(func(dim, inner int) {
		for _, x := range []api.Expert{made(dim-9*inner, dim, inner), alike(0, dim, inner), alike(-1, dim, inner), alike(top, dim, inner), alike(-top, dim, inner)} {
			s := written(t, x, dim)
			for size := 1; size <= 64; size++ {
				l, ok := Cut(s, size)
				if !ok {
					t.Fatalf("Cut(%s, %d)", shown(s), size)
				}
				if y, d, e := Import(Join(l)); !same(y, x) || d != dim || e != api.OK {
					t.Fatalf("%s, cut by %d: %s, %d, %d", shown(x), size, shown(y), d, e)
				}
			}
		}
	})
}

// P16.3: with one bit turned, at every bit, it is refused, and for its sum.
func TestOneBitTurned(t *testing.T) {
	eachSize(func(dim, inner int) {
		s := written(t, made(11*dim+inner, dim, inner), dim)
		for bit := range 8 * len(s) {
			if x, d, e := Import(turned(s, bit)); len(x.In) != 0 || len(x.Out) != 0 || d != 0 || e != api.ErrSum {
				t.Fatalf("%d and %d, the bit %d turned: %s, %d, %d", dim, inner, bit, shown(x), d, e)
			}
		}
	})
}

// P16.3: also where the bit is turned in one of the pieces, and where pieces are
// lost, doubled or out of order.
func TestSpoiledPieces(t *testing.T) {
	s := written(t, made(12, 3, 2), 3)
	for size := 1; size <= 32; size++ {
		l, _ := Cut(s, size)
		for i, piece := range l {
			for bit := range 8 * len(piece) {
				other := slices.Clone(l)
				other[i] = turned(piece, bit)
				refused(t, "a bit of a piece", Join(other), api.ErrSum)
			}
			if _, _, e := Import(Join(slices.Concat(l[:i], l[i+1:]))); e == api.OK {
				t.Errorf("by %d, without the piece %d: no error", size, i)
			}
			if _, _, e := Import(Join(slices.Insert(slices.Clone(l), i, piece))); e == api.OK {
				t.Errorf("by %d, the piece %d twice: no error", size, i)
			}
			if i > 0 && l[i-1] != piece {
				other := slices.Clone(l)
				other[i-1], other[i] = piece, l[i-1]
				if joined := Join(other); joined != s && checkImport(t, joined) == api.OK {
					t.Errorf("by %d, the piece %d ahead of the one before: no error", size, i)
				}
			}
		}
	}
}

// P16.1: with one bit turned, and the sum put right again, the answer is what
// the bytes say.
func TestOneBitTurnedAndSummed(t *testing.T) {
	for dim := 1; dim <= 8; dim++ {
		for _, inner := range []int{1, 2, 9 - dim, 8} {
			body := fours(listed(made(dim, dim, inner), dim)...)
			for bit := range 8 * len(body) {
				checkImport(t, sealed(turned(body, bit)))
			}
		}
	}
}

// P16.3: unlike experts have unlike bytes: also those of the same numbers in
// other rows.
func TestUnlikeExperts(t *testing.T) {
	type named struct {
		x   api.Expert
		dim int
	}
	seen := map[string]named{}
	lay := func(x api.Expert, dim int) {
		s := written(t, x, dim)
		if other, there := seen[s]; there && (other.dim != dim || !same(other.x, x)) {
			t.Errorf("%s, %d and %s, %d have the same bytes", shown(other.x), other.dim, shown(x), dim)
		}
		seen[s] = named{x, dim}
	}
	many := 0
	eachSize(func(dim, inner int) {
		for _, n := range edges() {
			lay(alike(n, dim, inner), dim)
			many++
		}
		for seed := range 50 {
			lay(made(seed, dim, inner), dim)
		}
		x := alike(0, dim, inner)
		for _, row := range slices.Concat(x.In, x.Out) {
			for k := range row {
				for _, row[k] = range []int{1, -1, 256} {
					lay(copied(x), dim)
					many++
				}
				row[k] = 0
			}
		}
	})
	if len(seen) < many {
		t.Errorf("%d bytes of at least %d unlike experts", len(seen), many)
	}
}

// P16.1, P16.3, P2: at experts and bytes that are drawn, right ones and wrong
// ones.
func TestDrawn(t *testing.T) {
	m := mixed(16)
	for range 20000 {
		dim, inner := m.next(10), m.next(10)
		x := api.Expert{In: m.rows(inner, dim), Out: m.rows(dim, inner)}
		if m.next(3) == 0 && dim > 0 && inner > 0 {
			rows := [][][]int{x.In, x.Out}[m.next(2)]
			row := m.next(len(rows))
			if m.next(2) == 0 {
				rows[row] = rows[row][:m.next(len(rows[row])+1)]
			} else {
				rows[row][m.next(len(rows[row]))] = beyond()[m.next(len(beyond()))]
			}
		}
		checkExport(t, x, dim)
		checkExport(t, x, m.next(12)-1)
	}
	for range 20000 {
		s := m.bytes(m.next(80))
		checkImport(t, s)
		checkImport(t, sealed(s))
		dim, inner := m.next(10), m.next(10)
		numbers := 2*inner*dim + m.next(3)*(m.next(3)-1)
		body := fours(inner, dim) + m.bytes(4*max(0, numbers))
		checkImport(t, sealed(body))
		checkImport(t, spoiled(body))
		checkCut(t, s, m.next(70)-2)
	}
}

// roomy is x in memory with room behind each row, and behind the rows; memory is
// all of it.
func roomy(x api.Expert, room int) (y api.Expert, memory [][]int) {
	laid := func(m [][]int) [][]int {
		rows := make([][]int, 0, len(m)+room)
		for _, row := range m {
			wide := slices.Concat(row, slices.Repeat([]int{-77}, room))
			memory = append(memory, wide)
			rows = append(rows, wide[:len(row)])
		}
		all := rows
		for k := range room {
			spare := []int{-88, k}
			memory = append(memory, spare)
			all = append(all, spare)
		}
		return rows
	}
	return api.Expert{In: laid(x.In), Out: laid(x.Out)}, memory
}

// R1, R4: what is handed in stays as it is, up to the end of its memory, and the
// room behind counts not.
func TestWhatIsHandedInStays(t *testing.T) {
	for dim := 1; dim <= 9; dim++ {
		for inner := 1; inner <= 9; inner++ {
			for _, room := range []int{0, 1, 9} {
				plain := made(dim*inner, dim, inner)
				x, memory := roomy(plain, room)
				was := copied(api.Expert{In: memory})
				spare := slices.Clone(x.In[:cap(x.In)])
				s := checkExport(t, x, dim)
				if w, _ := Export(plain, dim); s != w {
					t.Fatalf("%d and %d, room for %d: %s", dim, inner, room, shown(s))
				}
				checkExport(t, x, dim+1)
				if !same(api.Expert{In: memory}, was) || !slices.EqualFunc(x.In[:cap(x.In)], spare, slices.Equal) {
					t.Fatalf("%d and %d, room for %d: what was handed in is changed", dim, inner, room)
				}
			}
		}
	}
	wide := []string{"a", "", "bc", "spare", "room"}
	for n := range len(wide) + 1 {
		checkJoin(t, wide[:n])
		if !slices.Equal(wide, []string{"a", "", "bc", "spare", "room"}) {
			t.Fatalf("Join of the first %d: %q", n, wide)
		}
	}
}

// spoil writes into all the memory of a list.
func spoil[T any](l []T, with T) {
	l = l[:cap(l)]
	for i := range l {
		l[i] = with
	}
}

// R1: what is answered is new memory: no two of its lists share any, and what
// becomes of one answer does nothing to another.
func TestAnswersAreApart(t *testing.T) {
	eachSize(func(dim, inner int) {
		x := made(dim+20*inner, dim, inner)
		s := written(t, x, dim)
		kept, _, _ := Import(s)
		for at := range inner + dim {
			y, _, _ := Import(s)
			rows := slices.Concat(y.In, y.Out)
			spoil(rows[at], -99)
			for i, row := range rows {
				if want := slices.Concat(x.In, x.Out)[i]; i != at && !slices.Equal(row, want) {
					t.Fatalf("%d and %d: the row %d changed the row %d", dim, inner, at, i)
				}
			}
			spoil(y.In, nil)
			if !slices.EqualFunc(y.Out, rows[inner:], slices.Equal) {
				t.Fatalf("%d and %d: In's rows changed Out's", dim, inner)
			}
		}
		for _, row := range slices.Concat(x.In, x.Out) {
			spoil(row, -98)
		}
		if back := written(t, kept, dim); back != s {
			t.Fatalf("%d and %d: what came later changed %s to %s", dim, inner, shown(s), shown(back))
		}
		checkImport(t, s)
	})
	first, _ := Cut("abcdefg", 2)
	second, _ := Cut("abcdefg", 2)
	spoil(second, "z")
	if !slices.Equal(first, []string{"ab", "cd", "ef", "g"}) {
		t.Errorf("two answers share memory: %q", first)
	}
	checkCut(t, "abcdefg", 2)
}

// R5: lists that are nil and lists that are empty are the same.
func TestNilAndEmpty(t *testing.T) {
	for _, in := range [][][]int{nil, {}, {nil}, {{}}, {{one}}} {
		for _, out := range [][][]int{nil, {}, {nil}, {{}}, {{one}}} {
			for dim := -1; dim <= 9; dim++ {
				checkExport(t, api.Expert{In: in, Out: out}, dim)
			}
		}
	}
	if Join(nil) != Join([]string{}) {
		t.Error("Join of nil and of an empty list")
	}
}

func FuzzExport(f *testing.F) {
	f.Add(1, 1, 7, one, 2*one, 1)
	f.Add(8, 8, 3, top, -top, 64)
	f.Add(3, 9, 1, top+1, math.MinInt, 0)
	f.Add(0, 0, 0, 0, 0, -1)
	f.Fuzz(func(t *testing.T, dim, inner, seed, a, b, size int) {
		if dim < 0 || dim > 12 || inner < 0 || inner > 12 {
			t.Skip()
		}
		x, m := made(seed, dim, inner), mixed(seed)
		checkExport(t, x, dim)
		checkExport(t, x, a)
		if dim > 0 && inner > 0 {
			x.In[m.next(inner)][m.next(dim)] = a
			x.Out[m.next(dim)][m.next(inner)] = b
		}
		checkCut(t, checkExport(t, x, dim), size)
	})
}

func FuzzImport(f *testing.F) {
	f.Add("")
	eachSize(func(dim, inner int) {
		s, _ := Export(made(dim*inner, dim, inner), dim)
		f.Add(s)
		f.Add(s[:len(s)-4])
	})
	f.Fuzz(func(t *testing.T, s string) {
		checkImport(t, s)
		checkImport(t, sealed(s))
	})
}

func FuzzCut(f *testing.F) {
	f.Add("abc", 2)
	f.Add("", 1)
	f.Add("\x00\xff\x00", 64)
	f.Add("abc", math.MinInt)
	f.Fuzz(func(t *testing.T, s string, size int) {
		checkCut(t, s, size)
		checkCut(t, s, int(uint(size)%67)-1)
	})
}
