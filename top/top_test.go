package top

import (
	"cmp"
	"math"
	"slices"
	"testing"
)

// edges are the numbers at which something could turn: around 0, around the
// ends of shorter integers, and the ends of an int.
func edges() []int {
	return []int{
		0, 1, -1, 65535, 65536, -65536, math.MaxInt32, math.MinInt32, math.MaxInt32 + 1, math.MinInt32 - 1, -math.MaxInt32,
		1 << 32, -1 << 32, 1<<32 + 1, 1 << 62, -1 << 62, math.MaxInt - 1, math.MinInt + 1, math.MaxInt, math.MinInt,
	}
}

// want sorts the places, the greatest number first, and those of the same
// number in their order; what is not there is -1.
func want(v []int) (int, int) {
	places := make([]int, len(v))
	for i := range places {
		places[i] = i
	}
	slices.SortStableFunc(places, func(i, j int) int { return cmp.Compare(v[j], v[i]) })
	places = append(places, -1, -1)
	return places[0], places[1]
}

// check holds both calls against what is wanted, at a copy of v, which must
// afterwards be what it was.
func check(t *testing.T, v []int) {
	t.Helper()
	first, second := want(v)
	handed := slices.Clone(v)
	if got := Best(handed); got != first || !slices.Equal(handed, v) {
		t.Errorf("Best(%v): %d, not %d; it is now %v", v, got, first, handed)
	}
	if a, b := Two(handed); a != first || b != second || !slices.Equal(handed, v) {
		t.Errorf("Two(%v): %d, %d, not %d, %d; it is now %v", v, a, b, first, second, handed)
	}
	checkOrder(t, v)
}

// checkOrder is P4.2, told by the numbers alone: which ones are there, and
// which is greater.
func checkOrder(t *testing.T, v []int) {
	t.Helper()
	a, b := Two(v)
	if a != Best(v) || !isPlace(a, v, 1) || !isPlace(b, v, 2) {
		t.Fatalf("Two(%v): %d, %d; Best: %d", v, a, b, Best(v))
	}
	if len(v) < 2 {
		return
	}
	if a == b || v[b] > v[a] {
		t.Errorf("Two(%v): %d, %d", v, a, b)
	}
	for i, n := range v {
		if i != a && n > v[b] {
			t.Errorf("Two(%v): %d, %d, but %d at %d is greater than the second one", v, a, b, n, i)
		}
	}
}

// isPlace: a place of v where there are so many numbers, else -1.
func isPlace(p int, v []int, least int) bool {
	if len(v) < least {
		return p == -1
	}
	return p >= 0 && p < len(v)
}

// P4.1: what both answer; Best is Two's first one.
func TestBestAndTwo(t *testing.T) {
	for _, c := range []struct {
		v             []int
		first, second int
	}{
		{[]int{5, 9, 5}, 1, 0}, // the chapter's example
		// No number, and one, which has no other beside it.
		{nil, -1, -1}, {[]int{}, -1, -1}, {make([]int, 0, 4), -1, -1},
		{[]int{4}, 0, -1}, {[]int{0}, 0, -1}, {[]int{-1}, 0, -1}, {[]int{-9}, 0, -1}, {[]int{math.MaxInt}, 0, -1}, {[]int{math.MinInt}, 0, -1},
		// Two.
		{[]int{1, 2}, 1, 0}, {[]int{2, 1}, 0, 1}, {[]int{2, 2}, 0, 1}, {[]int{0, 0}, 0, 1}, {[]int{-1, -2}, 0, 1}, {[]int{-2, -1}, 1, 0}, {[]int{0, -1}, 0, 1}, {[]int{-1, 0}, 1, 0},
		// More: the greatest first, in the middle, last; the second ahead of it and behind it.
		{[]int{9, 5, 1}, 0, 1}, {[]int{9, 1, 5}, 0, 2}, {[]int{5, 9, 1}, 1, 0}, {[]int{1, 9, 5}, 1, 2}, {[]int{5, 1, 9}, 2, 0}, {[]int{1, 5, 9}, 2, 1},
		{[]int{1, 2, 3, 4, 5}, 4, 3}, {[]int{5, 4, 3, 2, 1}, 0, 1}, {[]int{3, 1, 4, 1, 5, 9, 2, 6}, 5, 7}, {[]int{8, 1, 4, 1, 5, 9, 2, 6}, 5, 0},
		// Of several greatest ones the first, and the next of them is the second.
		{[]int{9, 9, 5}, 0, 1}, {[]int{9, 5, 9}, 0, 2}, {[]int{5, 9, 9}, 1, 2}, {[]int{1, 9, 5, 9, 9}, 1, 3}, {[]int{8, 9, 8, 9}, 1, 3},
		// Of several second ones the first, ahead of the greatest, around it, and behind it.
		{[]int{5, 5, 9}, 2, 0}, {[]int{5, 9, 5, 5}, 1, 0}, {[]int{9, 5, 5}, 0, 1}, {[]int{9, 1, 5, 5}, 0, 2}, {[]int{1, 5, 9, 5}, 2, 1}, {[]int{1, 5, 5, 2, 9}, 4, 1},
		// All the same.
		{[]int{4, 4, 4}, 0, 1}, {[]int{0, 0, 0, 0}, 0, 1}, {[]int{-4, -4, -4}, 0, 1},
		{[]int{math.MinInt, math.MinInt, math.MinInt}, 0, 1}, {[]int{math.MaxInt, math.MaxInt, math.MaxInt}, 0, 1},
		// Below 0.
		{[]int{-5, -9, -5}, 0, 2}, {[]int{-9, -5, -1}, 2, 1}, {[]int{-1, -5, -9}, 0, 1}, {[]int{-5, -1, -9}, 1, 0}, {[]int{-1, 0, 1}, 2, 1}, {[]int{-1, 0, -1}, 1, 0},
		// The ends of an int, beside each other and beside others.
		{[]int{math.MinInt, math.MaxInt}, 1, 0}, {[]int{math.MaxInt, math.MinInt}, 0, 1}, {[]int{math.MinInt, math.MinInt}, 0, 1}, {[]int{math.MaxInt, math.MaxInt}, 0, 1},
		{[]int{math.MinInt, -1}, 1, 0}, {[]int{math.MinInt, 0}, 1, 0}, {[]int{-1, math.MinInt}, 0, 1}, {[]int{math.MinInt, math.MinInt + 1}, 1, 0}, {[]int{math.MaxInt - 1, math.MaxInt}, 1, 0},
		{[]int{math.MinInt, math.MaxInt, math.MinInt}, 1, 0}, {[]int{math.MaxInt, math.MinInt, math.MaxInt}, 0, 2}, {[]int{math.MinInt, math.MinInt, 0}, 2, 0}, {[]int{1, math.MinInt, math.MaxInt}, 2, 0},
		// Numbers are not held: beyond 2^31 - 1 one is still greater than another.
		{[]int{math.MaxInt32, math.MaxInt32 + 1, math.MaxInt32 + 2}, 2, 1}, {[]int{-math.MaxInt32 - 2, -math.MaxInt32 - 1, -math.MaxInt32}, 2, 1}, {[]int{1 << 32, 1<<32 + 1, 5}, 1, 0}, {[]int{7, 1 << 32, 1<<40 + 1}, 2, 1},
	} {
		if got := Best(c.v); got != c.first {
			t.Errorf("Best(%v): %d, not %d", c.v, got, c.first)
		}
		if a, b := Two(c.v); a != c.first || b != c.second {
			t.Errorf("Two(%v): %d, %d, not %d, %d", c.v, a, b, c.first, c.second)
		}
		check(t, c.v)
	}
}

// rows hands to visit each row of so many of the numbers.
func rows(numbers []int, length int, visit func(v []int)) {
	v := make([]int, length)
	var fill func(at int)
	fill = func(at int) {
		if at == length {
			visit(v)
			return
		}
		for _, n := range numbers {
			v[at] = n
			fill(at + 1)
		}
	}
	fill(0)
}

// P4.1, P4.2: all rows of up to six numbers out of few, so that every order,
// and every way in which numbers can be the same, is among them.
func TestAllShortRows(t *testing.T) {
	for length := range 7 {
		rows([]int{-1, 0, 1, 2}, length, func(v []int) { check(t, v) })
		rows([]int{math.MinInt, -3, math.MaxInt}, length, func(v []int) { check(t, v) })
	}
}

// P4.1, P4.2: each edge beside each other one.
func TestEdges(t *testing.T) {
	for length := range 4 {
		rows(edges(), length, func(v []int) { check(t, v) })
	}
	check(t, edges())
}

// P4.1, P4.2: the greatest one, and the second one, at each place of a long
// row, alone and with others that are the same.
func TestEachPlace(t *testing.T) {
	const length = 40
	for _, least := range []int{-7, 0, math.MinInt} {
		for first := range length {
			for second := range length {
				v := slices.Repeat([]int{least}, length)
				v[second] = least + 1
				v[first] = least + 2
				check(t, v)
				v[second] = least + 2
				check(t, v)
				v[length-1], v[0] = v[0], v[length-1]
				check(t, v)
			}
		}
	}
}

// P4.1, P4.2, P1: there may be more numbers than any model has.
func TestManyNumbers(t *testing.T) {
	mixed := 4
	for _, span := range []int{1, 2, 3, 100, math.MaxInt32, math.MaxInt} {
		for _, length := range []int{8, 9, 100, 1000, 70000} {
			v := make([]int, length)
			for i := range v {
				mixed = mixed*6364136223846793005 + 1442695040888963407 // wraps round
				v[i] = (mixed >> 3) % span
			}
			check(t, v)
		}
	}
}

// R1: v is afterwards what it was, up to the end of its memory; what stands
// behind it there is no part of it.
func TestNumbersStay(t *testing.T) {
	room := []int{90, 3, 9, 9, 5, 80, math.MaxInt}
	was := slices.Clone(room)
	v := room[1:5]
	for range 2 {
		if got := Best(v); got != 1 {
			t.Errorf("Best(%v): %d", v, got)
		}
		if a, b := Two(v); a != 1 || b != 2 {
			t.Errorf("Two(%v): %d, %d", v, a, b)
		}
		if a, b := Two(v[:0]); a != -1 || b != -1 || Best(v[:0]) != -1 {
			t.Errorf("Two of no number, with others behind: %d, %d", a, b)
		}
		if a, b := Two(v[:1]); a != 0 || b != -1 {
			t.Errorf("Two of one number, with others behind: %d, %d", a, b)
		}
		if !slices.Equal(room, was) {
			t.Fatalf("the calls changed what they were handed: %v", room)
		}
	}
}

// R1, R4: nothing is kept: an answer hangs on what v is now, and not on what it
// was or on what else was asked.
func TestNothingIsKept(t *testing.T) {
	v := []int{1, 2, 3}
	check(t, v)
	v[0] = 7
	check(t, v)
	v[2] = math.MinInt
	check(t, v)
	check(t, nil)
	check(t, v[:1])
	check(t, v)
}

func FuzzTheGreatestTwo(f *testing.F) {
	f.Add(5, 9, 5, 0, uint8(3))
	f.Add(math.MinInt, math.MaxInt, math.MinInt, math.MaxInt, uint8(4))
	f.Fuzz(func(t *testing.T, a, b, c, d int, length uint8) {
		v := []int{a, b, c, d, c, b, a}
		check(t, v[:int(length)%(len(v)+1)])
	})
}
