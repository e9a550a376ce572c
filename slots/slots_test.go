package slots

import (
	"fmt"
	"math"
	"slices"
	"testing"
)

// mixed gives numbers that are always the same ones for a seed.
type mixed uint64

func (m *mixed) next(below int) int {
	*m = *m*6364136223846793005 + 1442695040888963407
	return int(uint64(*m)>>33) % below
}

// choices are drawn of as many tokens, from -1 up to just experts, so that what
// is no expert's number is among them.
func (m *mixed) choices(tokens, experts int) [][2]int {
	all := make([][2]int, tokens)
	for i := range all {
		all[i] = [2]int{m.next(experts+2) - 1, m.next(experts+2) - 1}
	}
	return all
}

// edges are the numbers around which something could turn: 0, the limits, the
// ends of shorter ints, and those of an int.
func edges() []int {
	return []int{
		0, 1, -1, 2, -2, 3, 7, 8, 9, 15, 16, 31, 32, 33, 127, 128, 255, 256, 257, 65535, 65536, -65536,
		math.MaxInt32 - 1, math.MaxInt32, math.MaxInt32 + 1, math.MinInt32 - 1, math.MinInt32, 1 << 32, 1<<32 + 1, -1 << 32, 1 << 62,
		math.MaxInt - 1, math.MaxInt, math.MinInt, math.MinInt + 1,
	}
}

// parts are the two of each token, one behind the other, and pairs the other
// way round.
func parts(choices [][2]int) []int {
	var all []int
	for _, c := range choices {
		all = append(all, c[0], c[1])
	}
	return all
}

func pairs(parts []int) [][2]int {
	all := make([][2]int, len(parts)/2)
	for i := range all {
		all[i] = [2]int{parts[2*i], parts[2*i+1]}
	}
	return all
}

// want is P14.1, word for word: of each part, those ahead of it are gone
// through for how many of them were given to its expert.
func want(choices [][2]int, experts, capacity int) [][2]int {
	all := parts(choices)
	slots := make([]int, len(all))
	for i, expert := range all {
		given := 0
		for j := range i {
			if all[j] == expert && slots[j] != -1 {
				given++
			}
		}
		slots[i] = -1
		if 0 <= expert && expert < experts && given < capacity {
			slots[i] = given
		}
	}
	return pairs(slots)
}

// shown keeps what a test says of a list short.
func shown(l [][2]int) string {
	return fmt.Sprintf("%.200s (%d)", fmt.Sprint(l), len(l))
}

// check holds Assign against P14.1, P14.2 and R1, and tells what it answered.
func check(t *testing.T, choices [][2]int, experts, capacity int) [][2]int {
	t.Helper()
	was := append([][2]int(nil), choices...)
	got := Assign(choices, experts, capacity)
	if wanted := want(was, experts, capacity); !slices.Equal(got, wanted) {
		t.Fatalf("Assign(%s, %d, %d): %s, not %s", shown(was), experts, capacity, shown(got), shown(wanted))
	}
	if !slices.Equal(choices, was) {
		t.Fatalf("Assign(%s, %d, %d) changed what it was handed: %s", shown(was), experts, capacity, shown(choices))
	}
	checkRoom(t, choices, got, experts, capacity)
	return got
}

// checkRoom is P14.2, by what was answered alone.
func checkRoom(t *testing.T, choices, got [][2]int, experts, capacity int) {
	t.Helper()
	type place struct{ expert, slot int }
	many, taken := map[int]int{}, map[place]int{}
	slots := parts(got)
	for i, expert := range parts(choices) {
		if slots[i] == -1 {
			continue
		}
		many[expert]++
		taken[place{expert, slots[i]}]++
		if expert < 0 || expert >= experts || slots[i] < 0 || slots[i] >= capacity {
			t.Fatalf("Assign(%s, %d, %d): expert %d, slot %d", shown(choices), experts, capacity, expert, slots[i])
		}
		if many[expert] > capacity || taken[place{expert, slots[i]}] > 1 {
			t.Fatalf("Assign(%s, %d, %d): expert %d has %d parts, slot %d of it %d", shown(choices), experts, capacity, expert, many[expert], slots[i], taken[place{expert, slots[i]}])
		}
	}
}

// expect holds Assign against what is written out, beside check.
func expect(t *testing.T, choices [][2]int, experts, capacity int, wanted ...[2]int) {
	t.Helper()
	if got := check(t, choices, experts, capacity); !slices.Equal(got, wanted) {
		t.Errorf("Assign(%s, %d, %d): %s, not %s", shown(choices), experts, capacity, shown(got), shown(wanted))
	}
}

func TestExample(t *testing.T) {
	expect(t, [][2]int{{0, 1}, {0, 1}}, 2, 1, [2]int{0, 0}, [2]int{-1, -1})
}

// P14.1: no choices, no slots, whatever the numbers are.
func TestNoChoices(t *testing.T) {
	for _, experts := range edges() {
		for _, capacity := range edges() {
			for _, choices := range [][][2]int{nil, {}, make([][2]int, 0, 5)} {
				if got := check(t, choices, experts, capacity); len(got) != 0 {
					t.Errorf("Assign of none, %d, %d: %s", experts, capacity, shown(got))
				}
			}
		}
	}
}

// P14.1: as many answers as choices, also where none is given a slot.
func TestAsManyAsChoices(t *testing.T) {
	for tokens := range 40 {
		for _, experts := range []int{-1, 0, 1, 3, 8} {
			for _, capacity := range []int{-1, 0, 1, 5, 100} {
				if got := Assign(make([][2]int, tokens), experts, capacity); len(got) != tokens {
					t.Errorf("Assign of %d tokens, %d, %d: %d", tokens, experts, capacity, len(got))
				}
			}
		}
	}
}

// P14.1: what is given to whom, written out.
func TestWrittenOut(t *testing.T) {
	for _, c := range []struct {
		choices           [][2]int
		experts, capacity int
		want              [][2]int
	}{
		// Both of one token of the same expert.
		{[][2]int{{0, 0}}, 1, 2, [][2]int{{0, 1}}}, {[][2]int{{0, 0}}, 1, 1, [][2]int{{0, -1}}}, {[][2]int{{2, 2}}, 3, 9, [][2]int{{0, 1}}},
		{[][2]int{{1, 1}, {1, 1}}, 2, 3, [][2]int{{0, 1}, {2, -1}}}, {[][2]int{{1, 1}, {1, 1}}, 2, 4, [][2]int{{0, 1}, {2, 3}}}, {[][2]int{{1, 1}, {1, 1}}, 2, 1, [][2]int{{0, -1}, {-1, -1}}},
		// The same expert at 0 and at 1 of unlike tokens: not all that is at 0
		// ahead of all that is at 1.
		{[][2]int{{0, 1}, {1, 0}}, 2, 2, [][2]int{{0, 0}, {1, 1}}}, {[][2]int{{0, 1}, {1, 0}}, 2, 1, [][2]int{{0, 0}, {-1, -1}}},
		{[][2]int{{0, 1}, {1, 2}, {2, 1}}, 3, 2, [][2]int{{0, 0}, {1, 0}, {1, -1}}}, {[][2]int{{0, 1}, {1, 2}, {2, 1}}, 3, 1, [][2]int{{0, 0}, {-1, 0}, {-1, -1}}},
		{[][2]int{{1, 0}, {0, 2}, {0, 1}}, 3, 2, [][2]int{{0, 0}, {1, 0}, {-1, 1}}},
		// Each expert has slots of its own.
		{[][2]int{{0, 1}, {2, 3}}, 4, 1, [][2]int{{0, 0}, {0, 0}}}, {[][2]int{{3, 2}, {1, 0}}, 4, 1, [][2]int{{0, 0}, {0, 0}}}, {[][2]int{{0, 1}, {0, 2}, {0, 3}}, 4, 2, [][2]int{{0, 0}, {1, 0}, {-1, 0}}},
		// What is no expert's number takes no slot of another.
		{[][2]int{{-1, 0}, {0, -1}}, 1, 2, [][2]int{{-1, 0}, {1, -1}}}, {[][2]int{{0, 1}, {1, 0}}, 1, 2, [][2]int{{0, -1}, {-1, 1}}}, {[][2]int{{2, 0}, {2, 2}, {0, -1}, {9, 2}}, 3, 2, [][2]int{{0, 0}, {1, -1}, {1, -1}, {-1, -1}}},
	} {
		expect(t, c.choices, c.experts, c.capacity, c.want...)
	}
}

// P14.1: what is no expert's number has -1, at 0 and at 1, as often as it comes,
// and nothing is counted by it.
func TestNoExpertsNumber(t *testing.T) {
	for _, experts := range []int{1, 2, 3, 8, 100, math.MaxInt32, math.MaxInt - 1, math.MaxInt} {
		for _, n := range append(edges(), experts, -experts, -experts-1, experts-1-math.MaxInt) {
			if n >= 0 && n < experts {
				continue
			}
			expect(t, [][2]int{{n, n}}, experts, 9, [2]int{-1, -1})
			expect(t, [][2]int{{n, 0}, {0, n}, {n, n}, {0, 0}}, experts, 4, [2]int{-1, 0}, [2]int{1, -1}, [2]int{-1, -1}, [2]int{2, 3})
			expect(t, [][2]int{{n, experts - 1}, {n, experts - 1}, {experts - 1, n}}, experts, 2, [2]int{-1, 0}, [2]int{-1, 1}, [2]int{-1, -1})
		}
	}
	expect(t, [][2]int{{3, 4}, {2, 3}}, 3, 9, [2]int{-1, -1}, [2]int{0, -1})
}

// P14.1: each number from 0 to below experts is an expert's, and no other one.
func TestExperts(t *testing.T) {
	for _, experts := range append(edges(), 4, 5, 100) {
		for _, n := range append(edges(), experts-1, experts, experts+1) {
			slot := -1
			if n >= 0 && n < experts {
				slot = 0
			}
			expect(t, [][2]int{{n, -1}}, experts, 1, [2]int{slot, -1})
			expect(t, [][2]int{{-1, n}}, experts, math.MaxInt, [2]int{-1, slot})
		}
		check(t, pairs(append(edges(), edges()...)), experts, 1)
		check(t, pairs(append(edges(), edges()...)), experts, 2)
	}
	for _, none := range []int{0, -1, -2, math.MinInt32, math.MinInt + 1, math.MinInt} {
		expect(t, [][2]int{{0, 1}, {-1, -2}, {none, none - 1}}, none, 5, [2]int{-1, -1}, [2]int{-1, -1}, [2]int{-1, -1})
	}
	expect(t, [][2]int{{0, math.MaxInt - 1}, {math.MaxInt - 1, math.MaxInt}, {math.MaxInt - 1, 0}}, math.MaxInt, 2, [2]int{0, 0}, [2]int{1, -1}, [2]int{-1, 1})
}

// P14.1: capacity 0 and below 0 leave no room, and up to as many as there are
// parts each one more is one more slot.
func TestCapacity(t *testing.T) {
	const many = 12
	for _, none := range []int{0, -1, -2, -many, math.MinInt32, math.MinInt + 1, math.MinInt} {
		expect(t, [][2]int{{0, 1}, {1, 1}, {7, -1}}, 8, none, [2]int{-1, -1}, [2]int{-1, -1}, [2]int{-1, -1})
	}
	for _, capacity := range append(edges(), many-1, many, many+1) {
		for _, expert := range []int{0, 2, 5} {
			wanted := make([]int, many)
			for i := range wanted {
				wanted[i] = i
				if i >= capacity {
					wanted[i] = -1
				}
			}
			expect(t, pairs(slices.Repeat([]int{expert}, many)), 6, capacity, pairs(wanted)...)
		}
	}
}

// P14.1: a part that has no slot is not given: others behind it have theirs,
// and what is full stays so.
func TestFullIsNotGiven(t *testing.T) {
	expect(t, [][2]int{{0, 0}, {0, 1}}, 2, 1, [2]int{0, -1}, [2]int{-1, 0})
	expect(t, [][2]int{{0, 0}, {0, 0}, {1, 0}, {0, 1}, {1, 0}}, 2, 2, [2]int{0, 1}, [2]int{-1, -1}, [2]int{0, -1}, [2]int{-1, 1}, [2]int{-1, -1})
	for capacity := 1; capacity < 6; capacity++ {
		for beyond := 1; beyond < 9; beyond++ {
			l := slices.Concat(slices.Repeat([]int{3}, capacity+beyond), []int{1, 3, 2, 3, 1, 3})
			if len(l)%2 == 1 {
				l = append(l, 0)
			}
			slots := parts(check(t, pairs(l), 4, capacity))[capacity+beyond:]
			second := 1
			if capacity == 1 {
				second = -1
			}
			if !slices.Equal(slots[:6], []int{0, -1, 0, -1, second, -1}) {
				t.Errorf("Assign, %d parts beyond the capacity %d: %v behind them", beyond, capacity, slots)
			}
		}
	}
}

// P14.1, P14.2: all choices of up to three tokens out of few numbers.
func TestAllFewChoices(t *testing.T) {
	numbers := []int{-1, 0, 1, 2, 3}
	var fill func(l []int, many int)
	fill = func(l []int, many int) {
		if len(l) == many {
			for experts := range 4 {
				for _, capacity := range []int{0, 1, 2, 3, 6} {
					check(t, pairs(l), experts, capacity)
				}
			}
			return
		}
		for _, n := range numbers {
			fill(append(l, n), many)
		}
	}
	for _, many := range []int{0, 2, 4, 6} {
		fill(make([]int, 0, many), many)
	}
}

// P14.1, P14.2: choices that are drawn, with many tokens and few experts, and
// with few and many.
func TestDrawn(t *testing.T) {
	for _, tokens := range []int{1, 2, 3, 5, 16, 17, 40, 100} {
		for _, experts := range []int{1, 2, 3, 5, 8, 9, 30, 200, 5000} {
			m := mixed(tokens + 1000*experts)
			for _, capacity := range []int{-1, 0, 1, 2, 3, 5, 8, 31, 32, 2*tokens - 1, 2 * tokens, math.MaxInt} {
				check(t, m.choices(tokens, experts), experts, capacity)
				check(t, m.choices(tokens, experts), experts/2, capacity)
			}
		}
	}
}

// P14.2, P1: more tokens than any model has, with numbers that are unlike, and
// with few of them; by P14.2 alone, and by how many are given.
func TestManyTokens(t *testing.T) {
	const tokens = 200000
	m := mixed(14)
	for _, experts := range []int{1, 8, 1000, tokens} {
		choices := m.choices(tokens, experts)
		for _, capacity := range []int{1, 32, tokens, math.MaxInt} {
			got := Assign(choices, experts, capacity)
			checkRoom(t, choices, got, experts, capacity)
			many, given := map[int]int{}, 0
			for _, n := range parts(choices) {
				many[n]++
			}
			for n, some := range many {
				if n >= 0 && n < experts {
					given += min(some, capacity)
				}
			}
			for _, slot := range parts(got) {
				if slot != -1 {
					given--
				}
			}
			if given != 0 {
				t.Errorf("Assign of %d tokens, %d, %d: %d parts too few", tokens, experts, capacity, given)
			}
		}
	}
}

// P14.1: the slots of a beginning are the beginning of the slots, as what comes
// behind counts not.
func TestBeginnings(t *testing.T) {
	for seed := range 20 {
		m := mixed(seed)
		experts, capacity := 1+m.next(9), m.next(12)
		choices := m.choices(30, experts)
		all := check(t, choices, experts, capacity)
		for many := range choices {
			if got := check(t, choices[:many], experts, capacity); !slices.Equal(got, all[:many]) {
				t.Fatalf("Assign of the first %d of %s, %d, %d: %s, not %s", many, shown(choices), experts, capacity, shown(got), shown(all[:many]))
			}
		}
	}
}

// P14.1: which number an expert has counts not.
func TestOtherNumbers(t *testing.T) {
	other := []int{math.MaxInt - 1, 0, 1 << 32, 1<<32 + 1, 256, 7, 1, 65536}
	for seed := range 50 {
		m := mixed(seed)
		l := make([]int, 40)
		renamed := make([]int, len(l))
		for i := range l {
			l[i] = m.next(len(other))
			renamed[i] = other[l[i]]
		}
		capacity := m.next(8)
		got, wanted := check(t, pairs(renamed), math.MaxInt, capacity), check(t, pairs(l), len(other), capacity)
		if !slices.Equal(got, wanted) {
			t.Fatalf("Assign(%v, %d): %s, not %s", renamed, capacity, shown(got), shown(wanted))
		}
	}
}

// R1, R4: what is handed in stays as it is, up to the end of its memory, and
// what stands behind the last choice counts not.
func TestChoicesStay(t *testing.T) {
	for tokens := range 9 {
		for _, room := range []int{0, 1, 2, 9} {
			m := mixed(tokens + 100*room)
			memory := m.choices(tokens+room, 3)
			was := append([][2]int(nil), memory...)
			for capacity := range 4 {
				got, alone := check(t, memory[:tokens], 3, capacity), check(t, was[:tokens:tokens], 3, capacity)
				if !slices.Equal(got, alone) {
					t.Errorf("Assign with room for %d: %s, without: %s", room, shown(got), shown(alone))
				}
				if !slices.Equal(memory, was) {
					t.Fatalf("Assign of %d tokens, with room for %d, changed what it was handed", tokens, room)
				}
			}
		}
	}
}

// R1: the answer shares no memory with what was handed in, nor with another
// answer, up to the end of its memory.
func TestNewMemory(t *testing.T) {
	for tokens := range 9 {
		m := mixed(tokens)
		memory := m.choices(tokens+4, 3)
		was := append([][2]int(nil), memory...)
		for _, capacity := range []int{-1, 0, 2, 100} {
			got, other := Assign(memory[:tokens], 3, capacity), Assign(memory[:tokens], 3, capacity)
			wanted := append([][2]int(nil), other...)
			for i := range got[:cap(got)] {
				got[:cap(got)][i] = [2]int{77, 77}
			}
			if !slices.Equal(memory, was) || !slices.Equal(other, wanted) {
				t.Fatalf("Assign of %d tokens, 3, %d: the answer shares its memory", tokens, capacity)
			}
			got = Assign(memory[:tokens], 3, capacity)
			for i := range memory {
				memory[i] = [2]int{77, 77}
			}
			if !slices.Equal(got, wanted) {
				t.Fatalf("Assign of %d tokens, 3, %d: the answer is what was handed in", tokens, capacity)
			}
			copy(memory, was)
		}
	}
}

// R4: a second call answers the same, and nothing is kept: each call hangs on
// what the choices are now.
func TestNothingIsKept(t *testing.T) {
	m := mixed(4)
	choices := m.choices(20, 4)
	for range 30 {
		first := check(t, choices, 4, 3)
		check(t, choices, 3, 1)
		check(t, nil, 4, 3)
		if again := check(t, choices, 4, 3); !slices.Equal(first, again) {
			t.Fatalf("Assign(%s, 4, 3): %s, and then %s", shown(choices), shown(first), shown(again))
		}
		choices[m.next(20)][m.next(2)] = m.next(6) - 1
	}
}

func FuzzAssign(f *testing.F) {
	f.Add([]byte{0, 1, 0, 1}, 2, 1)
	f.Add([]byte{2, 0, 2, 2, 0, 255, 9, 2}, 3, 2)
	f.Add([]byte{}, math.MinInt, math.MaxInt)
	f.Add([]byte{127, 126, 125, 128, 129, 127}, math.MaxInt, math.MaxInt)
	f.Fuzz(func(t *testing.T, bytes []byte, experts, capacity int) {
		far := edges()
		l := make([]int, min(len(bytes), 300))
		for i := range l {
			l[i] = int(int8(bytes[i]))
			if l[i] > 100 {
				l[i] = far[l[i]%len(far)]
			}
		}
		check(t, pairs(l), experts, capacity)
		check(t, pairs(l), experts%10, capacity%10)
		check(t, pairs(l), max(experts%200, -(experts%200)), max(capacity%20, -(capacity%20)))
	})
}
