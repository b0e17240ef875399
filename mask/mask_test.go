package mask

import (
	"math"
	"slices"
	"testing"
)

const (
	full = math.MaxUint64
	last = 1 << 63
)

// notSlots are numbers below and above the slots. Some of them are a slot if only their lowest 6, 8, 16 or 32 bits are read.
var notSlots = []int{
	math.MinInt, math.MinInt + 1, -1 << 32, -1<<32 + 5, -1 << 31, -256, -251, -128, -65, -64, -63, -59, -6, -5, -2, -1,
	64, 65, 69, 96, 127, 128, 129, 255, 256, 261, 1<<16 + 5, 1 << 31, 1 << 32, 1<<32 + 1, 1<<32 + 5, 1<<32 + 63, math.MaxInt - 1, math.MaxInt,
}

// numbers are all slots, and numbers that are none.
func numbers() []int {
	list := slices.Clone(notSlots)
	for i := 0; i <= 63; i++ {
		list = append(list, i)
	}
	return list
}

// sets are the empty and the full one, all of one or two slots and all that lack just one, the ranges that begin or end at each slot, and many irregular ones, dense and sparse.
func sets() []uint64 {
	list := []uint64{0, full, 0x5555555555555555, 0xaaaaaaaaaaaaaaaa, 0xffffffff, 0xffffffff00000000}
	for i := range 64 {
		bit := uint64(1) << i
		list = append(list, bit, ^bit, bit-1, -bit)
		for j := range i {
			list = append(list, bit|1<<j)
		}
	}
	m := uint64(4)
	for range 200 {
		m = m*6364136223846793005 + 1442695040888963407
		n := m*2862933555777941757 + 3037000493
		list = append(list, m, m&n, m|n, m&n&(n>>7))
	}
	return list
}

// slots tells a set apart one slot at a time, by halving.
func slots(m uint64) [64]bool {
	var in [64]bool
	for i := range in {
		in[i] = m%2 == 1
		m /= 2
	}
	return in
}

// elements are those of a set in ascending order.
func elements(m uint64) []int {
	var list []int
	for i, in := range slots(m) {
		if in {
			list = append(list, i)
		}
	}
	return list
}

// set is the one in which exactly the slots of in are, made by doubling.
func set(in [64]bool) uint64 {
	var m uint64
	for i := 63; i >= 0; i-- {
		m *= 2
		if in[i] {
			m++
		}
	}
	return m
}

// atLeast is the first element from from on.
func atLeast(elements []int, from int) (int, bool) {
	for _, i := range elements {
		if i >= from {
			return i, true
		}
	}
	return 0, false
}

// P4.1: With, Without and Has, for slots that are in the set and that are not, at both ends, and for numbers that are not slots.
func TestWithWithoutHas(t *testing.T) {
	cases := []struct {
		m             uint64
		i             int
		with, without uint64
		has           bool
	}{
		{0, 0, 1, 0, false},
		{0, 1, 2, 0, false},
		{0, 63, last, 0, false},
		{1, 0, 1, 0, true},
		{last, 63, last, 0, true},
		{34, 0, 35, 34, false},
		{34, 1, 34, 32, true},
		{34, 2, 38, 34, false},
		{34, 5, 34, 2, true},
		{34, 32, 1<<32 + 34, 34, false},
		{1 << 32, 32, 1 << 32, 0, true},
		{full, 0, full, full - 1, true},
		{full, 63, full, full >> 1, true},
		{34, -1, 34, 34, false},
		{34, 64, 34, 34, false},
		{34, 65, 34, 34, false},
		{34, -63, 34, 34, false},
		{full, -1, full, full, false},
		{full, 64, full, full, false},
		{full, math.MinInt, full, full, false},
		{full, math.MaxInt, full, full, false},
		{0, math.MinInt, 0, 0, false},
		{0, math.MaxInt, 0, 0, false},
	}
	for _, x := range cases {
		if got := With(x.m, x.i); got != x.with {
			t.Errorf("With(%#x, %d) = %#x; want %#x", x.m, x.i, got, x.with)
		}
		if got := Without(x.m, x.i); got != x.without {
			t.Errorf("Without(%#x, %d) = %#x; want %#x", x.m, x.i, got, x.without)
		}
		if got := Has(x.m, x.i); got != x.has {
			t.Errorf("Has(%#x, %d) = %v; want %v", x.m, x.i, got, x.has)
		}
	}
}

// P4.1: With, Without and Has concern the one slot, in every set.
func TestWithWithoutHasEverywhere(t *testing.T) {
	for _, m := range sets() {
		for i, in := range slots(m) {
			with, without := slots(m), slots(m)
			with[i], without[i] = true, false
			if got := With(m, i); got != set(with) {
				t.Errorf("With(%#x, %d) = %#x; want %#x", m, i, got, set(with))
			}
			if got := Without(m, i); got != set(without) {
				t.Errorf("Without(%#x, %d) = %#x; want %#x", m, i, got, set(without))
			}
			if got := Has(m, i); got != in {
				t.Errorf("Has(%#x, %d) = %v; want %v", m, i, got, in)
			}
		}
		for _, i := range notSlots {
			if with, without, has := With(m, i), Without(m, i), Has(m, i); with != m || without != m || has {
				t.Errorf("With, Without and Has of (%#x, %d) = %#x, %#x, %v; want the set itself, twice, and false", m, i, with, without, has)
			}
		}
	}
}

// P4.1: List, of sets with no, one, several and all slots.
func TestList(t *testing.T) {
	cases := []struct {
		m    uint64
		list []int
	}{
		{0, nil},
		{1, []int{0}},
		{2, []int{1}},
		{last, []int{63}},
		{last + 1, []int{0, 63}},
		{34, []int{1, 5}},
		{7 << 30, []int{30, 31, 32}},
	}
	for _, x := range cases {
		if got := List(x.m); !slices.Equal(got, x.list) {
			t.Errorf("List(%#x) = %v; want %v", x.m, got, x.list)
		}
	}
	for _, m := range sets() {
		if got, want := List(m), elements(m); !slices.Equal(got, want) {
			t.Errorf("List(%#x) = %v; want %v", m, got, want)
		}
	}
}

// P4.1: each List is new memory, its spare capacity too.
func TestListIsNew(t *testing.T) {
	for _, m := range []uint64{0, 1, 34, 0x1f, full} {
		first, second := List(m), List(m)
		for i := range second[:cap(second)] {
			second[:cap(second)][i] = -7
		}
		for _, list := range [][]int{first[:cap(first)], List(m)} {
			if slices.Contains(list, -7) {
				t.Errorf("a result of List(%#x) shares memory with another: %v", m, list)
			}
		}
	}
}

// P4.1: Of, in any order, with repetitions, and with numbers that are not slots.
func TestOf(t *testing.T) {
	cases := []struct {
		list []int
		m    uint64
	}{
		{nil, 0},
		{[]int{}, 0},
		{[]int{0}, 1},
		{[]int{63}, last},
		{[]int{1, 5}, 34},
		{[]int{5, 1}, 34},
		{[]int{5, 1, 5, 5, 1}, 34},
		{[]int{63, 0, 32}, last + 1<<32 + 1},
		{[]int{-1}, 0},
		{[]int{64}, 0},
		{[]int{64, 5, -1, 1, math.MaxInt, math.MinInt, 1<<32 + 7}, 34},
		{[]int{math.MinInt, 0, 64, 63}, last + 1},
		{notSlots, 0},
		{numbers(), full},
		{append(numbers(), numbers()...), full},
	}
	for _, x := range cases {
		if got := Of(x.list...); got != x.m {
			t.Errorf("Of(%v) = %#x; want %#x", x.list, got, x.m)
		}
	}
	if got := Of(); got != 0 {
		t.Errorf("Of() = %#x; want 0", got)
	}
	if got := Of(1, 5); got != 34 {
		t.Errorf("Of(1, 5) = %#x; want 34", got)
	}
}

// P4.1: Of changes neither its argument nor the spare capacity.
func TestOfLeavesItsArgument(t *testing.T) {
	whole := []int{5, -1, 1, 64, 5, 9, 63}
	was := slices.Clone(whole)
	if got := Of(whole[:5]...); got != 34 {
		t.Errorf("Of(%v) = %#x; want 34", was[:5], got)
	}
	if !slices.Equal(whole, was) {
		t.Errorf("Of changed %v to %v", was, whole)
	}
}

// P4.2: Next and Round: from an element, between two, behind the last, in the empty set, and from numbers that are not slots.
func TestNextRound(t *testing.T) {
	type found struct {
		i  int
		ok bool
	}
	none := found{}
	cases := []struct {
		m           uint64
		from        int
		next, round found
	}{
		{34, 0, found{1, true}, found{1, true}},
		{34, 1, found{1, true}, found{1, true}},
		{34, 2, found{5, true}, found{5, true}},
		{34, 5, found{5, true}, found{5, true}},
		{34, 6, none, found{1, true}},
		{34, 63, none, found{1, true}},
		{1, 0, found{0, true}, found{0, true}},
		{1, 1, none, found{0, true}},
		{1, 63, none, found{0, true}},
		{last, 0, found{63, true}, found{63, true}},
		{last, 63, found{63, true}, found{63, true}},
		{full, 40, found{40, true}, found{40, true}},
		{0, 0, none, none},
		{0, 31, none, none},
		{0, 63, none, none},
		{34, -1, found{1, true}, none},
		{34, -63, found{1, true}, none},
		{34, math.MinInt, found{1, true}, none},
		{34, 64, none, none},
		{34, 65, none, none},
		{34, math.MaxInt, none, none},
		{last, 64, none, none},
		{last, -1, found{63, true}, none},
		{full, -1, found{0, true}, none},
		{full, 64, none, none},
		{full, 1 << 32, none, none},
		{0, -1, none, none},
		{0, 64, none, none},
	}
	for _, x := range cases {
		if i, ok := Next(x.m, x.from); (found{i, ok}) != x.next {
			t.Errorf("Next(%#x, %d) = %d, %v; want %v", x.m, x.from, i, ok, x.next)
		}
		if i, ok := Round(x.m, x.from); (found{i, ok}) != x.round {
			t.Errorf("Round(%#x, %d) = %d, %v; want %v", x.m, x.from, i, ok, x.round)
		}
	}
}

// P4.2: Next and Round, in every set and from every number, against a search of the list.
func TestNextRoundEverywhere(t *testing.T) {
	for _, m := range sets() {
		list := elements(m)
		for _, from := range numbers() {
			next, isNext := atLeast(list, from)
			if i, ok := Next(m, from); i != next || ok != isNext {
				t.Errorf("Next(%#x, %d) = %d, %v; want %d, %v", m, from, i, ok, next, isNext)
			}
			round, isRound := next, isNext
			switch {
			case slices.Contains(notSlots, from):
				round, isRound = 0, false
			case !isNext:
				round, isRound = atLeast(list, 0)
			}
			if i, ok := Round(m, from); i != round || ok != isRound {
				t.Errorf("Round(%#x, %d) = %d, %v; want %d, %v", m, from, i, ok, round, isRound)
			}
		}
	}
}

// P4.3: Of(List(m)...) is m.
func TestOfList(t *testing.T) {
	for _, m := range sets() {
		if got := Of(List(m)...); got != m {
			t.Errorf("Of(List(%#x)...) = %#x", m, got)
		}
	}
}
