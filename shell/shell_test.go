package shell

import (
	"fmt"
	"regexp"
	"slices"
	"strconv"
	"strings"
	"sync"
	"testing"

	"switchboard/api"
	"switchboard/model"
)

// mixed gives numbers that are always the same ones for a seed.
type mixed uint64

func (m *mixed) next(below int) int {
	*m = *m*6364136223846793005 + 1442695040888963407
	return int(uint64(*m)>>33) % below
}

func (m *mixed) text(texts ...string) string { return texts[m.next(len(texts))] }

// rightLines are lines of the table, each word with numbers that do something
// and with such as do not.
func rightLines() []string {
	return []string{
		"ask", "bag", "done",
		"deliver 0", "deliver 1", "deliver 3", "deliver 4", "deliver 10", "deliver 999999999",
		"drop 0", "drop 2", "drop 7", "drop 200", "drop 123456789",
		"twice 0", "twice 3", "twice 9", "twice 199", "twice 999999999",
		"add 0 1", "add 0 3", "add 1 4", "add 2 1", "add 0 0", "add 1 5", "add 999999999 999999999",
		"retire 0 1", "retire 0 2", "retire 1 2", "retire 1 3", "retire 2 2", "retire 0 0", "retire 999999999 999999999",
	}
}

// wrongNumbers are words that stand for no number.
func wrongNumbers() []string {
	return []string{
		"00", "01", "007", "000000000", "0123456789", "1000000000", "1234567890", "9999999999", "0000000001", "4294967296", "18446744073709551616", strings.Repeat("1", 10000),
		"-1", "-0", "+1", "+0", "--1", "1-", "-", "+", "a", "x1", "1x", "1a2", "one", "0x1", "0b1", "0o1", "1_0", "1e1", "1.0", "1,0", "1.", ".1", "1/", "1:", "/1", ":1", "'1'", "\"1\"",
		"1\t", "\t1", "1\r", "\r1", "1\x00", "\x001", "1\v", "1\f", "\u00a01", "1\u00a0", "\u06611", "\u0661", "\uff11", "\u00b2", "\xff", "1\x80", "\ufeff1",
	}
}

// wrongLines are lines that are none of the table's.
func wrongLines() []string {
	all := []string{
		"", " ", "  ", "   ", "    ", "\t", "\r", "\x00", "\xff", "0", "1", "0 0", "0 0 0", "0 deliver", "0 ask", "1 add 0",
		"what", "ask 1", "bag 0", "done 0", "ask ask", "ask bag", "bag done", "ok", "ok 4 0", "error 2", "put 0", "new", "move 0 1", "tick", "drain", "state", "map", "submit 1 1",
		"Ask", "ASK", "asK", "Bag", "Done", "Deliver 0", "DROP 0", "Twice 0", "Add 0 3", "RETIRE 0 1",
		"as", "sk", "a", "asks", "aask", "askask", "bags", "ba", "don", "dones", "delive 0", "delivers 0", "dro 0", "drops 0", "twic 0", "ad 0 3", "adds 0 3", "retir 0 1", "retires 0 1",
		"deliver0", "drop0", "twice0", "add0 3", "add 03", "add03", "retire0 1", "retire 01", "ask0", "ask\x00", "ask\r", "ask\t", "bag\r", "done.", "done;", "done#", "\ufeffask", "a\u0000sk", "b\u0430g",
		"deliver 0;", "deliver 0,", "deliver 0\r", "deliver 0 0", "deliver 0 #", "drop 0 0", "twice 0 0", "drop 0x", "twice 0 x",
		"add 0,3", "add 0 3 0", "add 0 3 0 0", "retire 0 1 0", "retire 0 1;", "add (0) 3", "add 0 3 3 3 3 3 3 3 3",
		"deliver i", "drop i", "twice i", "add e n", "retire e n", "ask|bag", "ask;bag", "ask bag done",
	}
	for _, line := range rightLines() {
		all = append(all, line+" ", " "+line, "  "+line, line+"  ", line+" 0 0 0", line+"\t", line+"\r", "\t"+line, line+"\x00", line+" x", "x "+line)
		if strings.Contains(line, " ") {
			all = append(all, strings.Replace(line, " ", "  ", 1), strings.Replace(line, " ", "\t", 1), strings.Replace(line, " ", "", 1), strings.ReplaceAll(line, " ", "\u00a0"), strings.ReplaceAll(line, " ", "   "))
		}
	}
	for _, word := range wrongNumbers() {
		all = append(all, "deliver "+word, "drop "+word, "twice "+word, "add "+word+" 3", "add 0 "+word, "retire "+word+" 1", "retire 0 "+word, "ask "+word, word)
	}
	return all
}

// lineForm is the table, its words and its numbers.
var lineForm = regexp.MustCompile(`\A(?:(ask|bag|done)|(deliver|drop|twice) (0|[1-9][0-9]{0,8})|(add|retire) (0|[1-9][0-9]{0,8}) (0|[1-9][0-9]{0,8}))\z`)

func isLine(line string) bool { return lineForm.MatchString(line) }

// frame is one of the script's fleet: what it is of a part, to or from which
// node, of which epoch.
type frame struct{ kind, node, part, epoch int }

// record is the script's fleet, by layer 19's words. It has four parts, of the
// tokens 0 and 1: of the number p the token is p/2, rank and expert are p%2.
type record struct {
	epoch    int
	holders  [2][]int
	frames   []frame
	worked   map[[2]int]bool // of a node and a part
	answered [4]bool
}

func newRecord() *record {
	r := &record{holders: [2][]int{{1, 2}, {1, 2}}, worked: map[[2]int]bool{}}
	r.ask()
	return r
}

func (r *record) put(x frame) {
	if len(r.frames) < 200 {
		r.frames = append(r.frames, x)
	}
}

func (r *record) ask() {
	for p, answered := range r.answered {
		if !answered {
			nodes := r.holders[p%2]
			r.put(frame{1, nodes[(p/2+p%2)%len(nodes)], p, r.epoch})
		}
	}
}

func (r *record) isDone() bool { return r.answered == [4]bool{true, true, true, true} }

// of does what is done with a frame.
func (r *record) of(word string, i int) int {
	if i >= len(r.frames) {
		return 4
	}
	x := r.frames[i]
	if word == "twice" {
		r.put(x)
		return 0
	}
	r.frames = slices.Concat(r.frames[:i], r.frames[i+1:])
	if word == "drop" {
		return 0
	}
	switch x.kind {
	case 1:
		if x.epoch != r.epoch || !slices.Contains(r.holders[x.part%2], x.node) {
			r.put(frame{3, x.node, x.part, r.epoch})
		} else {
			r.worked[[2]int{x.node, x.part}] = true
			r.put(frame{2, x.node, x.part, r.epoch})
		}
	case 2:
		r.answered[x.part] = true
	}
	return 0
}

// turn is layer 17's words.
func (r *record) turn(word string, e, n int) int {
	if e > 1 || n < 1 || n > 4 {
		return 1
	}
	nodes := r.holders[e]
	holds := slices.Contains(nodes, n)
	switch {
	case word == "add" && holds:
		return 5
	case word == "retire" && !holds:
		return 4
	case word == "retire" && len(nodes) == 1:
		return 7
	case word == "add":
		nodes = append(slices.Clone(nodes), n)
		slices.Sort(nodes)
	default:
		nodes = slices.DeleteFunc(slices.Clone(nodes), func(k int) bool { return k == n })
	}
	r.holders[e] = nodes
	r.epoch++
	return 0
}

func toldOf(errno int) string {
	if errno == 0 {
		return "ok"
	}
	return fmt.Sprintf("error %d", errno)
}

// tell is what a line tells.
func (r *record) tell(line string) string {
	m := lineForm.FindStringSubmatch(line)
	if m == nil {
		return "error 2"
	}
	n := func(at int) int {
		k, err := strconv.Atoi(m[at])
		if err != nil {
			panic(err)
		}
		return k
	}
	switch {
	case m[1] == "ask":
		r.ask()
		return "ok"
	case m[1] == "bag":
		return fmt.Sprintf("ok %d %d", len(r.frames), len(r.worked))
	case m[1] == "done" && r.isDone():
		return "ok 200 100 7"
	case m[1] == "done":
		return "ok"
	case m[2] != "":
		return toldOf(r.of(m[2], n(3)))
	}
	return toldOf(r.turn(m[4], n(5), n(6)))
}

// linesOf are a script's, by the chapter's words.
func linesOf(script string) []string {
	if script == "" {
		return nil
	}
	return strings.Split(strings.TrimSuffix(script, "\n"), "\n")
}

// wanted is what a script tells, by the chapter's words, line for line.
func wanted(script string) []string {
	r := newRecord()
	var all []string
	for _, line := range linesOf(script) {
		all = append(all, r.tell(line))
	}
	return all
}

// short keeps what a test says so.
func short(s string) string {
	if len(s) > 1500 {
		return fmt.Sprintf("%q .. (%d bytes) .. %q", s[:700], len(s), s[len(s)-700:])
	}
	return fmt.Sprintf("%q", s)
}

// reported are a report's lines, each of which must end in a byte 10.
func reported(t *testing.T, script string) []string {
	t.Helper()
	report := Run(script)
	if report == "" {
		return nil
	}
	if !strings.HasSuffix(report, "\n") {
		t.Fatalf("%s: %s has no byte 10 at its end", short(script), short(report))
	}
	return strings.Split(report[:len(report)-1], "\n")
}

// check holds a script against what it is to tell, line for line.
func check(t *testing.T, script string, want ...string) {
	t.Helper()
	got := reported(t, script)
	if slices.Equal(got, want) {
		return
	}
	lines := linesOf(script)
	for i := range min(len(got), len(want)) {
		if got[i] != want[i] {
			t.Fatalf("%s: the line %d, %s: %s, not %s", short(script), i, short(lines[i]), short(got[i]), short(want[i]))
		}
	}
	t.Fatalf("%s: %d lines, not %d", short(script), len(got), len(want))
}

// plays holds a script, whose lines are written with what they tell: "line => told".
func plays(t *testing.T, all ...string) {
	t.Helper()
	script := ""
	var want []string
	for _, one := range all {
		line, told, ok := strings.Cut(one, " => ")
		if !ok {
			t.Fatalf("the test's own: %q", one)
		}
		script += line + "\n"
		want = append(want, told)
	}
	check(t, script, want...)
	if got := wanted(script); !slices.Equal(got, want) {
		t.Fatalf("the test's own: %s: %q, not %q", short(script), got, want)
	}
}

// times is one, so often.
func times(many int, one string) []string { return slices.Repeat([]string{one}, many) }

// The chapter's example.
func TestExample(t *testing.T) {
	if got := Run("bag"); got != "ok 4 0\n" {
		t.Errorf("%q", got)
	}
}

// DOC.md's ten examples of the whole.
func TestExamplesOfTheWhole(t *testing.T) {
	for _, c := range []struct{ script, want string }{
		{"bag", "ok 4 0\n"},
		{"bag\ndeliver 0\nbag", "ok 4 0\nok\nok 4 1\n"},
		{"bag\ndeliver 0\nbag\ndone", "ok 4 0\nok\nok 4 1\nok\n"},
		{"bag\ndeliver 0\nbag\ndone\ndrop 7", "ok 4 0\nok\nok 4 1\nok\nerror 4\n"},
		{"bag\ndeliver 0\nbag\ndone\ndrop 7\nadd 0 1\nadd 2 1", "ok 4 0\nok\nok 4 1\nok\nerror 4\nerror 5\nerror 1\n"},
		{"retire 0 1\nretire 0 2", "ok\nerror 7\n"},
		{"what\nask 1", "error 2\nerror 2\n"},
		{"drop 0\nask\nbag", "ok\nok\nok 7 0\n"},
		{"drop 0\nask\nbag\ntwice 0\nbag", "ok\nok\nok 7 0\nok\nok 8 0\n"},
		{"", ""},
	} {
		for _, end := range []string{"", "\n"} {
			if c.script == "" {
				end = ""
			}
			if got := Run(c.script + end); got != c.want {
				t.Errorf("%q: %q, not %q", c.script+end, got, c.want)
			}
		}
	}
}

// P20.1: a script from its beginning to its end, as it is delivered in order.
func TestWrittenOut(t *testing.T) {
	plays(t,
		"bag => ok 4 0", "done => ok",
		"deliver 0 => ok", "bag => ok 4 1", "deliver 0 => ok", "bag => ok 4 2", "deliver 0 => ok", "bag => ok 4 3", "deliver 0 => ok", "bag => ok 4 4", "done => ok",
		"deliver 0 => ok", "bag => ok 3 4", "deliver 0 => ok", "bag => ok 2 4", "deliver 0 => ok", "bag => ok 1 4", "done => ok",
		"deliver 0 => ok", "bag => ok 0 4", "done => ok 200 100 7",
		"deliver 0 => error 4", "drop 0 => error 4", "twice 0 => error 4", "ask => ok", "bag => ok 0 4", "done => ok 200 100 7",
	)
}

// The same, with frames lost, doubled, delivered in another order, stale and asked
// for again, and a part that two nodes work out.
func TestWrittenOutWithTurns(t *testing.T) {
	plays(t, slices.Concat(
		[]string{"deliver 0 => ok", "drop 3 => ok", "retire 0 1 => ok", "ask => ok", "bag => ok 7 1"},
		times(7, "deliver 0 => ok"), []string{"bag => ok 7 5", "done => ok"},
		times(6, "deliver 0 => ok"), []string{"bag => ok 1 5", "done => ok", "deliver 0 => ok", "bag => ok 0 5", "done => ok 200 100 7"},
	)...)
	plays(t, slices.Concat(
		[]string{"deliver 3 => ok", "deliver 3 => ok", "bag => ok 3 1", "deliver 2 => ok", "twice 2 => ok", "bag => ok 4 2", "deliver 3 => ok", "deliver 2 => ok", "bag => ok 2 2"},
		[]string{"add 1 4 => ok", "deliver 1 => ok", "bag => ok 2 2", "drop 0 => ok", "drop 0 => ok", "bag => ok 0 2", "done => ok", "ask => ok", "bag => ok 2 2"},
		[]string{"deliver 1 => ok", "deliver 1 => ok", "done => ok", "deliver 0 => ok", "bag => ok 1 4", "drop 0 => ok", "done => ok", "ask => ok", "bag => ok 1 4"},
		[]string{"deliver 0 => ok", "bag => ok 1 4", "deliver 0 => ok", "bag => ok 0 4", "done => ok 200 100 7"},
	)...)
	plays(t, slices.Concat(times(4, "drop 0 => ok"), []string{"drop 0 => error 4", "bag => ok 0 0", "done => ok", "ask => ok", "ask => ok", "bag => ok 8 0"},
		times(16, "deliver 0 => ok"), []string{"deliver 0 => error 4", "bag => ok 0 4", "done => ok 200 100 7"})...)
}

// P20.1: deliver, drop and twice, where there is a frame and where there is none.
func TestFrames(t *testing.T) {
	for i := range 4 {
		plays(t, fmt.Sprintf("deliver %d => ok", i), "bag => ok 4 1")
		plays(t, fmt.Sprintf("drop %d => ok", i), "bag => ok 3 0")
		plays(t, fmt.Sprintf("twice %d => ok", i), "bag => ok 5 0")
	}
	for _, i := range []int{4, 5, 7, 10, 199, 200, 201, 255, 256, 65536, 999999998, 999999999} {
		for _, word := range []string{"deliver", "drop", "twice"} {
			plays(t, fmt.Sprintf("%s %d => error 4", word, i), "bag => ok 4 0", "done => ok")
		}
	}
	plays(t, slices.Concat(times(4, "drop 0 => ok"), []string{"deliver 0 => error 4", "drop 0 => error 4", "twice 0 => error 4", "bag => ok 0 0"})...)
	plays(t, "twice 1 => ok", "twice 4 => ok", "bag => ok 6 0", "drop 1 => ok", "drop 0 => ok", "drop 0 => ok", "drop 0 => ok", "deliver 0 => ok", "deliver 0 => ok", "bag => ok 2 1")
	plays(t, "drop 3 => ok", "drop 3 => error 4", "drop 2 => ok", "deliver 2 => error 4", "twice 2 => error 4", "twice 1 => ok", "twice 2 => ok", "bag => ok 4 0")
}

// P20.1: which frame it is that something is done with: the part that it is of is
// what is asked for again, or not.
func TestWhichFrame(t *testing.T) {
	for i := range 4 {
		lines := []string{fmt.Sprintf("twice %d => ok", i)}
		lines = append(lines, times(4, "drop 0 => ok")...)
		lines = append(lines, "deliver 0 => ok", "deliver 0 => ok", "bag => ok 0 1", "ask => ok", "bag => ok 3 1")
		plays(t, lines...)
		lines = []string{fmt.Sprintf("drop %d => ok", i), "deliver 0 => ok", "deliver 0 => ok", "deliver 0 => ok", "deliver 0 => ok", "deliver 0 => ok", "deliver 0 => ok"}
		lines = append(lines, "bag => ok 0 3", "done => ok", "ask => ok", "bag => ok 1 3", "deliver 0 => ok", "deliver 0 => ok", "done => ok 200 100 7")
		plays(t, lines...)
	}
}

// P20.1: add and retire with each error that layer 17 has, and with none.
func TestHolders(t *testing.T) {
	plays(t, "add 0 1 => error 5", "add 0 2 => error 5", "add 0 3 => ok", "add 0 3 => error 5", "add 0 4 => ok", "add 0 4 => error 5", "add 1 4 => ok", "add 1 3 => ok")
	plays(t, "retire 0 3 => error 4", "retire 0 4 => error 4", "retire 0 1 => ok", "retire 0 1 => error 4", "retire 0 2 => error 7", "add 0 1 => ok", "retire 0 2 => ok", "retire 0 1 => error 7")
	plays(t, "retire 1 2 => ok", "retire 1 1 => error 7", "retire 1 2 => error 4", "retire 0 2 => ok", "retire 0 1 => error 7", "add 1 2 => ok", "retire 1 1 => ok")
	for _, word := range []string{"add", "retire"} {
		for _, e := range []int{2, 3, 7, 8, 10, 256, 4294967, 999999999} {
			plays(t, fmt.Sprintf("%s %d 1 => error 1", word, e), fmt.Sprintf("%s %d 3 => error 1", word, e))
		}
		for _, n := range []int{0, 5, 6, 10, 257, 65537, 999999999} {
			plays(t, fmt.Sprintf("%s 0 %d => error 1", word, n), fmt.Sprintf("%s 1 %d => error 1", word, n))
		}
	}
	for e := range 2 {
		for n := 1; n <= 4; n++ {
			add, retire := "ok", "ok"
			if n <= 2 {
				add = "error 5"
			} else {
				retire = "error 4"
			}
			plays(t, fmt.Sprintf("add %d %d => %s", e, n, add))
			plays(t, fmt.Sprintf("retire %d %d => %s", e, n, retire))
		}
	}
}

// P20.1: a turn is seen: what was asked for before is stale, and not worked on;
// a turn that is refused is none.
func TestTurns(t *testing.T) {
	for _, line := range []string{"add 0 3", "add 1 3", "retire 0 1", "retire 1 2"} {
		plays(t, slices.Concat([]string{line + " => ok"}, times(8, "deliver 0 => ok"), []string{"bag => ok 0 0", "done => ok", "ask => ok"}, times(8, "deliver 0 => ok"), []string{"bag => ok 0 4", "done => ok 200 100 7"})...)
	}
	for _, one := range []string{"add 0 1 => error 5", "add 2 3 => error 1", "add 0 5 => error 1", "retire 0 3 => error 4", "retire 1 0 => error 1", "bag => ok 4 0", "done => ok", "add 0 => error 2"} {
		plays(t, slices.Concat([]string{one}, times(8, "deliver 0 => ok"), []string{"bag => ok 0 4", "done => ok 200 100 7"})...)
	}
}

// P20.1: a bag that is full takes no more, and that is no error.
func TestFullBag(t *testing.T) {
	plays(t, slices.Concat(times(195, "twice 0 => ok"), []string{"bag => ok 199 0", "ask => ok", "bag => ok 200 0", "twice 0 => ok", "bag => ok 200 0", "twice 199 => ok", "twice 200 => error 4", "ask => ok", "bag => ok 200 0"},
		times(400, "deliver 0 => ok"), []string{"bag => ok 0 4", "done => ok 200 100 7"})...)
}

// P20.1: each wrong line tells error 2, alone and wherever it stands, and changes
// nothing that stands behind it.
func TestWrongLines(t *testing.T) {
	right := []string{"bag", "deliver 1", "drop 9", "twice 0", "add 0 3", "ask", "add 0 3", "retire 1 1", "bag", "deliver 0", "done"}
	rightTold := wanted(strings.Join(right, "\n"))
	for _, line := range wrongLines() {
		if isLine(line) {
			t.Fatalf("the test's own: %q", line)
		}
		check(t, line+"\n", "error 2")
		if line != "" {
			check(t, line, "error 2")
		}
		check(t, line+"\n"+line+"\n", "error 2", "error 2")
		for at := range len(right) + 1 {
			check(t, strings.Join(slices.Insert(slices.Clone(right), at, line), "\n")+"\n", slices.Insert(slices.Clone(rightTold), at, "error 2")...)
		}
	}
}

// P20.1: each word with no number, one, and so on up to six.
func TestHowManyNumbers(t *testing.T) {
	takes := []struct {
		word string
		many int
	}{{"ask", 0}, {"bag", 0}, {"done", 0}, {"deliver", 1}, {"drop", 1}, {"twice", 1}, {"add", 2}, {"retire", 2}, {"what", -1}, {"", -1}, {"0", -1}}
	for _, c := range takes {
		for many := range 7 {
			for _, number := range []string{"0", "1", "3", "999999999"} {
				line := c.word + strings.Repeat(" "+number, many)
				if got := isLine(line); got != (many == c.many) {
					t.Fatalf("the test's own: %q: %t", line, got)
				}
				script := line + "\nbag\n"
				check(t, script, wanted(script)...)
			}
		}
	}
}

// P20.1: numbers of one digit up to nine are read as what they stand for.
func TestNumbers(t *testing.T) {
	for _, number := range []string{"5", "9", "10", "40", "100", "101", "200", "203", "1000", "12345", "100000", "1234567", "10000000", "100000000", "123456789", "987654321", "999999999"} {
		plays(t, "deliver "+number+" => error 4", "drop "+number+" => error 4", "twice "+number+" => error 4", "add "+number+" 1 => error 1", "retire 0 "+number+" => error 1")
	}
	full := times(196, "twice 0 => ok")
	for _, i := range []int{0, 1, 9, 10, 11, 19, 90, 99, 100, 101, 109, 110, 190, 198} {
		plays(t, append(slices.Clone(full), fmt.Sprintf("drop %d => ok", i), "bag => ok 199 0", "drop 199 => error 4")...)
	}
}

// The same of each place up to 197: the frame there alone, of all there are, is of
// another part, so that the entries tell whether it was it.
func TestPlaces(t *testing.T) {
	for i := range 198 {
		begun := slices.Concat([]string{"drop 2 => ok", "drop 2 => ok"}, times(i, "twice 0 => ok"), []string{"twice 1 => ok", "drop 1 => ok"}, times(198-i, "twice 0 => ok"),
			[]string{"bag => ok 200 0", "deliver 0 => ok", "drop 199 => ok", "bag => ok 199 1"})
		plays(t, append(slices.Clone(begun), fmt.Sprintf("deliver %d => ok", i), "bag => ok 199 2")...)
		plays(t, append(slices.Clone(begun), fmt.Sprintf("twice %d => ok", i), "bag => ok 200 1", "deliver 199 => ok", "bag => ok 200 2")...)
		plays(t, slices.Concat(begun, []string{fmt.Sprintf("drop %d => ok", i)}, times(198, "deliver 0 => ok"), []string{"bag => ok 198 1"})...)
	}
}

// P20.1: any byte, at any place of a line, and any two bytes alone.
func TestEachByte(t *testing.T) {
	for _, line := range []string{"ask", "bag", "done", "deliver 0", "drop 1", "twice 3", "add 0 3", "retire 1 2", "deliver 10", "add 0 999999999"} {
		for c := range 256 {
			for at := range len(line) + 1 {
				put := line[:at] + string([]byte{byte(c)}) + line[at:]
				check(t, put+"\nbag", wanted(put+"\nbag")...)
				if at < len(line) {
					laid := line[:at] + string([]byte{byte(c)}) + line[at+1:]
					check(t, laid+"\nbag", wanted(laid+"\nbag")...)
				}
			}
		}
		for at := range line {
			gone := line[:at] + line[at+1:]
			check(t, gone+"\nbag", wanted(gone+"\nbag")...)
			check(t, line[:at]+"\nbag", wanted(line[:at]+"\nbag")...)
		}
	}
	for c := range 256 {
		for d := range 256 {
			script := string([]byte{byte(c), byte(d)})
			check(t, script, wanted(script)...)
		}
	}
}

// P20.1: lines and their ends.
func TestLines(t *testing.T) {
	for _, c := range []struct{ script, want string }{
		{"", ""},
		{"\n", "error 2\n"},
		{"\n\n", "error 2\nerror 2\n"},
		{"\n\n\n", "error 2\nerror 2\nerror 2\n"},
		{"bag", "ok 4 0\n"},
		{"bag\n", "ok 4 0\n"},
		{"bag\n\n", "ok 4 0\nerror 2\n"},
		{"bag\n\n\n", "ok 4 0\nerror 2\nerror 2\n"},
		{"\nbag", "error 2\nok 4 0\n"},
		{"\nbag\n", "error 2\nok 4 0\n"},
		{"\n\nbag\n", "error 2\nerror 2\nok 4 0\n"},
		{"bag\nbag", "ok 4 0\nok 4 0\n"},
		{"bag\nbag\n", "ok 4 0\nok 4 0\n"},
		{"bag\n\nbag", "ok 4 0\nerror 2\nok 4 0\n"},
		{"bag\n\nbag\n\n", "ok 4 0\nerror 2\nok 4 0\nerror 2\n"},
		{"bag\n ", "ok 4 0\nerror 2\n"},
		{"bag\n \n", "ok 4 0\nerror 2\n"},
		{" ", "error 2\n"},
		{"bag \n", "error 2\n"},
		{"bag\r\n", "error 2\n"},
		{"bag\rbag\n", "error 2\n"},
		{"bag\r\nbag", "error 2\nok 4 0\n"},
		{"bag\n\r", "ok 4 0\nerror 2\n"},
		{"bag\x00bag", "error 2\n"},
		{"bag\vbag\fbag", "error 2\n"},
		{"bag\u2028bag\u0085bag", "error 2\n"},
		{"bag\\nbag", "error 2\n"},
		{"deliver\n0\nbag", "error 2\nerror 2\nok 4 0\n"},
		{"add 0\n3\nadd 0 3", "error 2\nerror 2\nok\n"},
		{"\x00", "error 2\n"},
	} {
		if got := Run(c.script); got != c.want {
			t.Errorf("%q: %q, not %q", c.script, got, c.want)
		}
	}
}

// P20.2: what is done is told as layer 15 has it.
func TestDoneIsTheModels(t *testing.T) {
	in, twice := [][]int{{65536}}, [][]int{{131072}}
	l := api.Layer{Gate: [][]int{{65536}, {0}}, Experts: []api.Expert{{In: in, Out: in}, {In: in, Out: twice}}, Capacity: 2}
	tokens, errno := model.Forward(api.Model{Dim: 1, Layers: []api.Layer{l}}, [][]int{{100}, {50}, {7}})
	if errno != api.OK {
		t.Fatal("the test's own")
	}
	want := "ok"
	for _, token := range tokens {
		want += " " + strconv.Itoa(token[0])
	}
	draw := mixed(2)
	for range 150 {
		script := strings.Join(draw.lines(50+draw.next(200)), "\n") + "\n"
		// What is stale, or lost in a full bag, is asked for till nothing is left.
		end := strings.Repeat("deliver 0\n", 400) + "ask\n" + strings.Repeat("deliver 0\n", 16) + "bag\ndone\n"
		got := reported(t, script+end)
		if last := got[len(got)-1]; last != want {
			t.Fatalf("%s: %s, not %s", short(script), last, want)
		}
		if bag := got[len(got)-2]; !strings.HasPrefix(bag, "ok 0 ") {
			t.Fatalf("%s: %s", short(script), bag)
		}
	}
}

// line is a drawn one, that more often than not is one of the table's.
func (m *mixed) line() string {
	i := strconv.Itoa(m.next(6))
	switch m.next(20) {
	case 0:
		return m.text(wrongLines()...)
	case 1:
		return m.text(rightLines()...)
	case 2:
		return m.spoiled(m.text(rightLines()...))
	case 3:
		i = strconv.Itoa(m.next(200))
	case 4, 5:
		return "ask"
	case 6, 7:
		return m.text("bag", "done")
	case 8, 9:
		return m.text("add ", "retire ") + m.text("0", "1") + " " + m.text("1", "2", "3", "4")
	}
	return m.text("deliver ", "deliver ", "deliver ", "deliver ", "drop ", "twice ", "twice ") + i
}

func (m *mixed) lines(many int) []string {
	all := make([]string, many)
	for i := range all {
		all[i] = m.line()
	}
	return all
}

// spoiled is a line with a byte more, a byte less, or another one at a place.
func (m *mixed) spoiled(line string) string {
	at := m.next(len(line))
	c := string([]byte{byte(m.next(256))})
	if m.next(2) == 0 {
		c = m.text(" ", "0", "1", "9", "-", "\n", "\r", "\t", "x")
	}
	switch m.next(3) {
	case 0:
		return line[:at] + c + line[at:]
	case 1:
		return line[:at] + line[at+1:]
	}
	return line[:at] + c + line[at+1:]
}

// P20.1: drawn scripts, wrong ones among them, against the chapter's words.
func TestDrawnScripts(t *testing.T) {
	draw := mixed(20)
	told := map[string]int{}
	for range 1500 {
		script := strings.Join(draw.lines(draw.next(200)), "\n") + draw.text("", "\n", "\n\n")
		check(t, script, wanted(script)...)
		for _, one := range reported(t, script) {
			told[one]++
		}
	}
	for _, one := range []string{"ok", "error 1", "error 2", "error 4", "error 5", "error 7", "ok 200 100 7", "ok 4 0", "ok 0 4"} {
		if told[one] < 20 {
			t.Errorf("%q was told %d times", one, told[one])
		}
	}
}

// The same, of any bytes, and of such bytes as lines are made of.
func TestDrawnBytes(t *testing.T) {
	draw := mixed(256)
	for round := range 3000 {
		b := make([]byte, draw.next(300))
		for i := range b {
			b[i] = byte(draw.next(256))
			if round%3 > 0 {
				b[i] = " \n 01239askbgdoneliverptwc-"[draw.next(26)]
			}
		}
		check(t, string(b), wanted(string(b))...)
	}
	words := []string{"ask", "bag", "done", "deliver", "drop", "twice", "add", "retire", "0", "1", "2", "3", " ", " ", " ", " ", "\n", "\n", "\n", "\n"}
	right := 0
	for range 3000 {
		script := ""
		for range draw.next(100) {
			script += draw.text(words...)
		}
		check(t, script, wanted(script)...)
		for _, line := range linesOf(script) {
			if isLine(line) {
				right++
			}
		}
	}
	if right < 1000 {
		t.Errorf("%d lines were right", right)
	}
}

// P20.2: the report of a script is that of its beginning, and more.
func TestBeginnings(t *testing.T) {
	draw := mixed(202)
	for range 40 {
		lines := draw.lines(60)
		whole := Run(strings.Join(lines, "\n"))
		for many := range len(lines) + 1 {
			begun := strings.Join(lines[:many], "\n")
			report := Run(begun)
			if !strings.HasPrefix(whole, report) {
				t.Fatalf("%s: %s, and of its beginning %s: %s", short(strings.Join(lines, "\n")), short(whole), short(begun), short(report))
			}
			if begun != "" && !strings.HasSuffix(begun, "\n") && Run(begun+"\n") != report {
				t.Fatalf("%s: another one with a byte 10 at its end", short(begun))
			}
			if want := len(linesOf(begun)); strings.Count(report, "\n") != want {
				t.Fatalf("%s: %s, not %d lines", short(begun), short(report), want)
			}
		}
	}
}

// R3: lines that tell an error change nothing: without them the others tell the
// same.
func TestErrorsChangeNothing(t *testing.T) {
	draw := mixed(3)
	for range 300 {
		var lines []string
		for _, line := range draw.lines(150) {
			lines = append(lines, strings.Split(line, "\n")...)
		}
		var kept, want []string
		for i, one := range reported(t, strings.Join(lines, "\n")+"\n") {
			if !strings.HasPrefix(one, "error ") {
				kept, want = append(kept, lines[i]), append(want, one)
			}
		}
		check(t, strings.Join(kept, "\n")+"\n", want...)
	}
}

// R4: the same script tells the same, whatever others are played before it, or
// beside it.
func TestTheSameAgain(t *testing.T) {
	draw := mixed(4)
	scripts := make([]string, 40)
	first := make([]string, len(scripts))
	for i := range scripts {
		scripts[i] = strings.Join(draw.lines(100), "\n")
		first[i] = Run(scripts[i])
	}
	var all sync.WaitGroup
	for k := range 8 {
		all.Go(func() {
			for i := range scripts {
				at := (i*7 + k*5) % len(scripts)
				if got := Run(strings.Clone(scripts[at])); got != first[at] {
					t.Errorf("%s: %s, not %s", short(scripts[at]), short(got), short(first[at]))
				}
			}
		})
	}
	all.Wait()
}

// P1: every call ends and none panics: long scripts, long lines and long words.
func TestLongScripts(t *testing.T) {
	const many = 1 << 20
	for _, c := range []struct {
		one  string
		want string
	}{{"\n", "error 2"}, {"bag\n", "ok 4 0"}, {"done\n", "ok"}, {"add 0 1\n", "error 5"}, {"drop 4\n", "error 4"}, {" \n", "error 2"}} {
		if got := Run(strings.Repeat(c.one, many/8)); got != strings.Repeat(c.want+"\n", many/8) {
			t.Errorf("%q, again and again: %s", c.one, short(got))
		}
	}
	for _, line := range []string{" ", "0", "1", "9", "a", "\x00", "\xff", "0 ", " 0", "ask ", "deliver ", "deliver 0 ", "\r", "-"} {
		long := strings.Repeat(line, many)
		for _, script := range []string{long, "ask" + long, "deliver " + long, "add 0 " + long, "add 0 3 " + long, long + "\n" + long} {
			check(t, script+"\nbag\n", append(times(strings.Count(script, "\n")+1, "error 2"), "ok 4 0")...)
		}
	}
	turns := strings.Repeat("add 0 3\nretire 0 3\n", 20000)
	check(t, turns+strings.Repeat("deliver 0\n", 8)+"ask\n"+strings.Repeat("deliver 0\n", 8)+"done\n", append(times(40000+17, "ok"), "ok 200 100 7")...)
	draw := mixed(1 << 20)
	long := strings.Join(draw.lines(100000), "\n")
	check(t, long, wanted(long)...)
}

// FuzzRun holds any bytes against the chapter's words.
func FuzzRun(f *testing.F) {
	f.Add("bag\ndeliver 0\nbag\ndone\ndrop 7\nadd 0 1\nadd 2 1\nwhat\nask 1\n")
	f.Add("retire 0 1\nretire 0 2\n\ntwice 0\nask\nbag")
	f.Add("drop 0\n drop 0\ndrop  0\ndrop 00\ndrop -0\ndrop 999999999\ndrop 1000000000\n\n")
	f.Fuzz(func(t *testing.T, script string) {
		check(t, script, wanted(script)...)
	})
}

// FuzzPlay reads a script from bytes, a line from each two, and plays it to its
// end.
func FuzzPlay(f *testing.F) {
	f.Add([]byte{})
	f.Add([]byte{0, 0, 1, 0, 2, 0, 3, 0, 4, 0, 5, 2, 6, 4, 7, 0})
	f.Fuzz(func(t *testing.T, data []byte) {
		words := []string{"ask", "bag", "done", "deliver", "drop", "twice", "add", "retire"}
		script := ""
		for ; len(data) >= 2; data = data[2:] {
			word, n := words[data[0]%8], int(data[1])
			switch {
			case word == "add" || word == "retire":
				word += fmt.Sprintf(" %d %d", n%3, n/3%6)
			case len(word) > 3 && word != "done":
				word += fmt.Sprintf(" %d", n)
			}
			script += word + "\n"
		}
		script += strings.Repeat("deliver 0\n", 400) + "ask\n" + strings.Repeat("deliver 0\n", 16)
		check(t, script+"done\n", append(wanted(script), "ok 200 100 7")...)
	})
}
