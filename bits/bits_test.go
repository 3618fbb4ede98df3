package bits_test

import (
	"math"
	"slices"
	"testing"

	"verge/bits"
)

const (
	slots = 64
	empty = bits.Map(0)
	full  = bits.Map(math.MaxUint64)
)

// below and above are numbers that are no slots.
var (
	below = []int{-1, -2, -63, -64, -65, -1 << 32, math.MinInt + 1, math.MinInt}
	above = []int{64, 65, 127, 128, 1 << 32, 1<<32 + 5, math.MaxInt - 1, math.MaxInt}
)

// noSlots are all of these.
func noSlots() []int { return slices.Concat(below, above) }

// of is the map with these slots, put there one by one.
func of(l ...int) bits.Map {
	m := empty
	for _, s := range l {
		m = m.With(s)
	}
	return m
}

// list are a map's slots, rising, in another way than by bits.
func list(m bits.Map) []int {
	var l []int
	n := uint64(m)
	for s := range slots {
		if n%2 == 1 {
			l = append(l, s)
		}
		n /= 2
	}
	return l
}

// numbers are n numbers that follow one behind the other by a rule.
func numbers(seed uint64, n int) []uint64 {
	var l []uint64
	for range n {
		seed = seed*6364136223846793005 + 1442695040888963407
		l = append(l, seed^seed>>29)
	}
	return l
}

// samples are maps of no, one, few, many and all slots.
func samples() []bits.Map {
	l := []bits.Map{empty, full, 0xAAAAAAAAAAAAAAAA, 0x5555555555555555, 1<<40 | 1<<3, 1<<63 | 1, 3 << 31}
	for i := range slots {
		l = append(l, 1<<i, full^1<<i, full<<i, full>>i, 1<<i|1, 1<<i|1<<63)
	}
	x := numbers(6, 300)
	for i := 0; i < len(x); i += 3 {
		l = append(l, bits.Map(x[i]), bits.Map(x[i]&x[i+1]&x[i+2]), bits.Map(x[i]|x[i+1]|x[i+2]))
	}
	return l
}

// has holds all that a map tells against the slots that it must have, rising.
func has(t *testing.T, m bits.Map, want ...int) {
	t.Helper()
	if got := m.All(); !slices.Equal(got, want) {
		t.Errorf("%#x: All: %v, want %v", m, got, want)
	}
	if got := m.Len(); got != len(want) {
		t.Errorf("%#x: Len: %d, want %d", m, got, len(want))
	}
	for s := range slots {
		if got := m.Has(s); got != slices.Contains(want, s) {
			t.Errorf("%#x: Has(%d): %t, want %t", m, s, got, !got)
		}
	}
}

// P6.1

func TestHas(t *testing.T) {
	m := bits.Map(1<<63 | 1<<32 | 1<<31 | 1)
	for _, q := range []struct {
		slot int
		want bool
	}{
		{0, true}, {1, false}, {30, false}, {31, true}, {32, true}, {33, false}, {62, false}, {63, true},
	} {
		if got := m.Has(q.slot); got != q.want {
			t.Errorf("Has(%d): %t, want %t", q.slot, got, q.want)
		}
	}
	for s := range slots {
		if empty.Has(s) || !full.Has(s) {
			t.Errorf("Has(%d): of the empty map %t, of the full one %t", s, empty.Has(s), full.Has(s))
		}
	}
}

func TestHasByDivision(t *testing.T) {
	for _, m := range samples() {
		want := list(m)
		for s := range slots {
			if got := m.Has(s); got != slices.Contains(want, s) {
				t.Errorf("%#x: Has(%d): %t, want %t", m, s, got, !got)
			}
		}
	}
}

func TestHasOfNoSlot(t *testing.T) {
	for _, m := range samples() {
		for _, s := range noSlots() {
			if m.Has(s) {
				t.Errorf("%#x: Has(%d)", m, s)
			}
		}
	}
}

func TestWith(t *testing.T) {
	for _, q := range []struct {
		m    bits.Map
		slot int
		want bits.Map
	}{
		{empty, 0, 1}, {empty, 31, 0x80000000}, {empty, 32, 0x100000000}, {empty, 63, 0x8000000000000000},
		{1, 63, 0x8000000000000001}, {0x80000000, 32, 0x180000000}, {8, 40, 0x10000000008},
		{full, 0, full}, {full, 31, full}, {full, 32, full}, {full, 63, full},
		{0xFFFFFFFFFFFFFFFE, 0, full}, {0x7FFFFFFFFFFFFFFF, 63, full},
	} {
		if got := q.m.With(q.slot); got != q.want {
			t.Errorf("%#x: With(%d): %#x, want %#x", q.m, q.slot, got, q.want)
		}
	}
}

func TestWithout(t *testing.T) {
	for _, q := range []struct {
		m    bits.Map
		slot int
		want bits.Map
	}{
		{1, 0, empty}, {0x80000000, 31, empty}, {0x100000000, 32, empty}, {0x8000000000000000, 63, empty},
		{0x8000000000000001, 63, 1}, {0x180000000, 32, 0x80000000}, {0x10000000008, 3, 0x10000000000},
		{empty, 0, empty}, {empty, 31, empty}, {empty, 32, empty}, {empty, 63, empty},
		{full, 0, 0xFFFFFFFFFFFFFFFE}, {full, 63, 0x7FFFFFFFFFFFFFFF},
	} {
		if got := q.m.Without(q.slot); got != q.want {
			t.Errorf("%#x: Without(%d): %#x, want %#x", q.m, q.slot, got, q.want)
		}
	}
}

func TestWithAndWithoutTouchOneSlot(t *testing.T) {
	for _, m := range samples() {
		old := list(m)
		for s := range slots {
			at, was := slices.BinarySearch(old, s)
			more, less := old, old
			if was {
				less = slices.Delete(slices.Clone(old), at, at+1)
			} else {
				more = slices.Insert(slices.Clone(old), at, s)
			}
			if got := list(m.With(s)); !slices.Equal(got, more) {
				t.Errorf("%#x: With(%d): %v, want %v", m, s, got, more)
			}
			if got := list(m.Without(s)); !slices.Equal(got, less) {
				t.Errorf("%#x: Without(%d): %v, want %v", m, s, got, less)
			}
		}
	}
}

func TestSetTwiceAndTakenTwice(t *testing.T) {
	for s := range slots {
		once := of(5, 50).With(s)
		if got := once.With(s); got != once || !got.Has(s) {
			t.Errorf("With(%d) twice: %#x, once: %#x", s, got, once)
		}
		gone := once.Without(s)
		if got := gone.Without(s); got != gone || got.Has(s) {
			t.Errorf("Without(%d) twice: %#x, once: %#x", s, got, gone)
		}
		// A bit is no count: one that was set twice is taken at once.
		if got := empty.With(s).With(s).Without(s); got != empty {
			t.Errorf("With(%d) twice, Without once: %#x", s, got)
		}
		if got := full.Without(s).Without(s).With(s); got != full {
			t.Errorf("Without(%d) twice, With once: %#x", s, got)
		}
	}
}

func TestWithAndWithoutNoSlot(t *testing.T) {
	for _, m := range samples() {
		for _, s := range noSlots() {
			if got := m.With(s); got != m {
				t.Errorf("%#x: With(%d): %#x", m, s, got)
			}
			if got := m.Without(s); got != m {
				t.Errorf("%#x: Without(%d): %#x", m, s, got)
			}
		}
	}
}

func TestMapStaysAsItIs(t *testing.T) {
	m := of(3, 40)
	if m.With(7) == m || m.Without(3) == m {
		t.Errorf("With(7): %#x, Without(3): %#x, of %#x", m.With(7), m.Without(3), m)
	}
	m.From(4)
	m.Round(41)
	m.All()
	has(t, m, 3, 40)
}

// P6.2

func TestExample(t *testing.T) {
	m := of(3, 40)
	if got := m.From(4); got != 40 {
		t.Errorf("From(4): %d, want 40", got)
	}
	if got := m.From(41); got != -1 {
		t.Errorf("From(41): %d, want -1", got)
	}
	if got := m.Round(41); got != 3 {
		t.Errorf("Round(41): %d, want 3", got)
	}
}

func TestFromAndRound(t *testing.T) {
	for _, q := range []struct {
		m                 bits.Map
		slot, from, round int
	}{
		// Ahead of a slot, at it, and behind it.
		{of(3, 40), 0, 3, 3}, {of(3, 40), 2, 3, 3}, {of(3, 40), 3, 3, 3}, {of(3, 40), 4, 40, 40},
		{of(3, 40), 39, 40, 40}, {of(3, 40), 40, 40, 40}, {of(3, 40), 41, -1, 3}, {of(3, 40), 63, -1, 3},
		// Both ends, and the middle.
		{of(0), 0, 0, 0}, {of(0), 1, -1, 0}, {of(0), 63, -1, 0},
		{of(63), 0, 63, 63}, {of(63), 62, 63, 63}, {of(63), 63, 63, 63}, {of(63), 64, -1, 63},
		{of(31, 32), 30, 31, 31}, {of(31, 32), 31, 31, 31}, {of(31, 32), 32, 32, 32}, {of(31, 32), 33, -1, 31},
		{of(0, 63), 1, 63, 63}, {of(0, 63), 63, 63, 63}, {of(0, 63), 64, -1, 0},
		// Below 0 is as 0 is; above the last slot there is nothing.
		{of(3, 40), -1, 3, 3}, {of(3, 40), math.MinInt, 3, 3}, {of(0), -1, 0, 0}, {of(63), -7, 63, 63},
		{of(3, 40), 64, -1, 3}, {of(3, 40), math.MaxInt, -1, 3}, {full, 64, -1, 0}, {full, math.MaxInt, -1, 0},
		{full, math.MinInt, 0, 0}, {full, -1, 0, 0},
	} {
		if got := q.m.From(q.slot); got != q.from {
			t.Errorf("%#x: From(%d): %d, want %d", q.m, q.slot, got, q.from)
		}
		if got := q.m.Round(q.slot); got != q.round {
			t.Errorf("%#x: Round(%d): %d, want %d", q.m, q.slot, got, q.round)
		}
	}
}

func TestFromAndRoundOfTheEmptyAndTheFullMap(t *testing.T) {
	for s := range slots {
		if empty.From(s) != -1 || empty.Round(s) != -1 {
			t.Errorf("the empty map: From(%d): %d, Round: %d", s, empty.From(s), empty.Round(s))
		}
		if full.From(s) != s || full.Round(s) != s {
			t.Errorf("the full map: From(%d): %d, Round: %d", s, full.From(s), full.Round(s))
		}
	}
	for _, s := range noSlots() {
		if empty.From(s) != -1 || empty.Round(s) != -1 {
			t.Errorf("the empty map: From(%d): %d, Round: %d", s, empty.From(s), empty.Round(s))
		}
	}
}

func TestFromAndRoundAgainstTheList(t *testing.T) {
	asked := noSlots()
	for s := range slots {
		asked = append(asked, s)
	}
	for _, m := range samples() {
		l := list(m)
		for _, s := range asked {
			from := -1
			if at := slices.IndexFunc(l, func(x int) bool { return x >= s }); at >= 0 {
				from = l[at]
			}
			round := from
			if from < 0 && len(l) > 0 {
				round = l[0]
			}
			if got := m.From(s); got != from {
				t.Errorf("%#x: From(%d): %d, want %d", m, s, got, from)
			}
			if got := m.Round(s); got != round {
				t.Errorf("%#x: Round(%d): %d, want %d", m, s, got, round)
			}
		}
	}
}

func TestAllAndLen(t *testing.T) {
	has(t, empty)
	has(t, of(3, 40), 3, 40)
	has(t, of(63, 32, 31, 0), 0, 31, 32, 63)
	for s := range slots {
		has(t, bits.Map(1)<<s, s)
	}
	var every []int
	for s := range slots {
		every = append(every, s)
	}
	has(t, full, every...)
	has(t, full.Without(0), every[1:]...)
	has(t, full.Without(63), every[:63]...)
	for _, m := range samples() {
		has(t, m, list(m)...)
	}
}

func TestAllIsOnesOwn(t *testing.T) {
	for _, m := range []bits.Map{of(3, 40), of(0, 31, 32, 63), full} {
		one, two := m.All(), m.All()
		for i := range one {
			one[i] = -9
		}
		_ = append(one[:1], -8, -8)
		spare := one[:cap(one)]
		for i := range spare {
			spare[i] = -7
		}
		if !slices.Equal(two, list(m)) {
			t.Errorf("%#x: the other answer: %v", m, two)
		}
		has(t, m, list(m)...)
	}
}

// P6.3

// mixed are the same slots in another order, by a rule.
func mixed(l []int, by []uint64) []int {
	l = slices.Clone(l)
	for i := len(l) - 1; i > 0; i-- {
		j := int(by[i] % uint64(i+1))
		l[i], l[j] = l[j], l[i]
	}
	return l
}

func TestAlikeInWhateverOrder(t *testing.T) {
	for _, m := range samples() {
		l := list(m)
		back := slices.Clone(l)
		slices.Reverse(back)
		orders := [][]int{l, back, slices.Concat(back, l, noSlots())}
		for seed := range uint64(4) {
			orders = append(orders, mixed(l, numbers(seed, slots)))
		}
		for _, o := range orders {
			if got := of(o...); got != m {
				t.Errorf("the map of %v: %#x, want %#x", o, got, m)
			}
		}
	}
}

func TestAlikeByWhateverWay(t *testing.T) {
	for _, m := range samples() {
		// From the full one, by taking the others; and with what is taken again.
		down, detour := full, empty
		for s := range slots {
			detour = detour.With(s)
			if !m.Has(s) {
				down = down.Without(s)
			}
		}
		for s := slots - 1; s >= 0; s-- {
			if !m.Has(s) {
				detour = detour.Without(s)
			}
		}
		if down != m || detour != m {
			t.Errorf("%#x: by taking %#x, by a detour %#x", m, down, detour)
		}
	}
}

func TestAlikeJustIfTheSameSlots(t *testing.T) {
	l := samples()
	for _, a := range l {
		for _, b := range l {
			same := slices.Equal(a.All(), b.All())
			if same != (a == b) {
				t.Errorf("%#x and %#x: the same slots %t, alike %t", a, b, same, a == b)
			}
		}
	}
}

func TestOtherSlotsAreOtherMaps(t *testing.T) {
	for _, m := range samples() {
		seen := map[bits.Map]int{m: -1}
		for s := range slots {
			other := m.With(s)
			if other == m {
				other = m.Without(s)
			}
			if by, ok := seen[other]; ok {
				t.Errorf("%#x: changed at %d it is as changed at %d", m, s, by)
			}
			seen[other] = s
		}
	}
}
