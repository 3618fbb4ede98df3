package level_test

import (
	"math"
	"slices"
	"testing"

	"verge/api"
	"verge/bits"
	"verge/level"
	"verge/list"
)

const slots = 64

// ends are slots at both ends and in the middle.
var ends = []int{0, 1, 31, 32, 33, 62, 63}

// noSlots are numbers that are no slots.
var noSlots = []int{
	-1, -2, -63, -64, -65, -1 << 32, math.MinInt + 1, math.MinInt,
	64, 65, 127, 128, 1 << 32, 1<<32 + 5, math.MaxInt - 1, math.MaxInt,
}

// rows is what a level must have: the nodes of each slot, in order.
type rows[T any] map[int][]*list.Node[T]

// place is a struct whose values can't be compared: a level is of any type.
type place struct {
	name string
	at   []int
}

// fresh is a level without nodes.
func fresh[T any](t *testing.T) *level.Level[T] {
	t.Helper()
	l := level.New[T]()
	if l == nil {
		t.Fatal("New: nil")
	}
	return l
}

// loose are nodes with these values, in no list.
func loose[T any](values ...T) []*list.Node[T] {
	var nodes []*list.Node[T]
	for _, v := range values {
		nodes = append(nodes, &list.Node[T]{Value: v})
	}
	return nodes
}

// filled is a level with these values, and their nodes, in a slot.
func filled[T any](t *testing.T, slot int, values ...T) (*level.Level[T], []*list.Node[T]) {
	t.Helper()
	l, nodes := fresh[T](t), loose(values...)
	puts(t, l, slot, nodes...)
	return l, nodes
}

// puts puts nodes into a slot one behind the other.
func puts[T any](t *testing.T, l *level.Level[T], slot int, nodes ...*list.Node[T]) {
	t.Helper()
	for _, n := range nodes {
		answers(t, "Put", l.Put(slot, n), api.OK)
	}
}

// takes takes all of a slot, which must be these nodes, that are in no list then.
func takes[T any](t *testing.T, l *level.Level[T], slot int, want ...*list.Node[T]) {
	t.Helper()
	if got := l.Take(slot); !slices.Equal(got, want) {
		t.Errorf("Take(%d): %v, want %v", slot, got, want)
	}
	free(t, want...)
}

// answers holds an error against the one that is wanted.
func answers(t *testing.T, what string, e, want api.Errno) {
	t.Helper()
	if e != want {
		t.Errorf("%s: %d, want %d", what, e, want)
	}
}

// values are what nodes have.
func values[T any](nodes []*list.Node[T]) []T {
	var l []T
	for _, n := range nodes {
		l = append(l, n.Value)
	}
	return l
}

// holds asks a level for all that it tells of itself: it has these nodes, and no others.
func holds[T comparable](t *testing.T, l *level.Level[T], want rows[T]) {
	t.Helper()
	count, m := 0, bits.Map(0)
	for slot := range slots {
		if got := l.At(slot); !slices.Equal(got, values(want[slot])) {
			t.Errorf("At(%d): %v, want %v", slot, got, values(want[slot]))
		}
		if len(want[slot]) > 0 {
			m = m.With(slot)
		}
		count += len(want[slot])
	}
	if got := l.Map(); got != m {
		t.Errorf("Map: %v, want %v", got.All(), m.All())
	}
	if got := l.Len(); got != count {
		t.Errorf("Len: %d, want %d", got, count)
	}
}

// free asks whether nodes are in no list: a list of its own takes just such ones.
func free[T any](t *testing.T, nodes ...*list.Node[T]) {
	t.Helper()
	for _, n := range nodes {
		own := list.New[T]()
		if e := own.Put(n); e != api.OK {
			t.Errorf("the node with %v is in a list: %d", n.Value, e)
		}
		own.Unlink(n)
	}
}

// The chapter's example.

func TestExample(t *testing.T) {
	l, n := fresh[string](t), loose("a", "b")
	answers(t, "Put(3, a)", l.Put(3, n[0]), api.OK)
	answers(t, "Put(40, b)", l.Put(40, n[1]), api.OK)
	if got := l.Map(); !slices.Equal(got.All(), []int{3, 40}) {
		t.Errorf("Map: %v", got.All())
	}
	takes(t, l, 3, n[0])
	if got := l.Map(); !slices.Equal(got.All(), []int{40}) {
		t.Errorf("Map: %v", got.All())
	}
	holds(t, l, rows[string]{40: {n[1]}})
}

// P7.1

func TestNewIsEmpty(t *testing.T) {
	holds(t, fresh[int](t), nil)
	holds(t, fresh[string](t), nil)
	l := fresh[int](t)
	for slot := range slots {
		takes(t, l, slot)
	}
	holds(t, l, nil)
}

func TestLevelsHaveTheirOwnSlots(t *testing.T) {
	l, n := filled(t, 7, 1, 2)
	o := fresh[int](t)
	holds(t, o, nil)
	m := loose(3)
	puts(t, o, 7, m...)
	holds(t, l, rows[int]{7: n})
	holds(t, o, rows[int]{7: m})
	takes(t, l, 7, n...)
	holds(t, o, rows[int]{7: m})
}

func TestPutIntoEverySlot(t *testing.T) {
	l, want := fresh[int](t), rows[int]{}
	for round := range 3 {
		for slot := range slots {
			n := &list.Node[int]{Value: 100*round + slot}
			puts(t, l, slot, n)
			want[slot] = append(want[slot], n)
			holds(t, l, want)
		}
	}
}

func TestPutStandsBehind(t *testing.T) {
	for _, slot := range ends {
		l, n := fresh[string](t), loose("c", "a", "b", "a", "")
		for i := range n {
			puts(t, l, slot, n[i])
			holds(t, l, rows[string]{slot: n[:i+1]})
		}
	}
}

func TestPutRefusesNoSlot(t *testing.T) {
	l, n := filled(t, 63, 1)
	other := loose(2)[0]
	for _, slot := range noSlots {
		answers(t, "Put of a node in no list", l.Put(slot, other), api.ErrRange)
		answers(t, "Put of one that is here", l.Put(slot, n[0]), api.ErrRange)
		answers(t, "Put(nil)", l.Put(slot, nil), api.ErrRange)
		free(t, other)
	}
	holds(t, l, rows[int]{63: n})
}

func TestPutRefusesNil(t *testing.T) {
	l, n := filled(t, 31, 1, 2)
	for _, slot := range ends {
		answers(t, "Put(nil)", l.Put(slot, nil), api.ErrInvalid)
		holds(t, l, rows[int]{31: n})
	}
	none := fresh[string](t)
	answers(t, "Put(nil) into an empty level", none.Put(0, nil), api.ErrInvalid)
	holds(t, none, nil)
}

func TestPutRefusesWhatIsInAList(t *testing.T) {
	l, n := filled(t, 0, 1, 2, 3)
	o, m := filled(t, 0, 4)
	own := list.New[int]()
	in := own.Push(5)
	for _, slot := range ends {
		for _, x := range n {
			// Of slot 0 it is the same slot, of the others another one.
			answers(t, "Put of one that is here", l.Put(slot, x), api.ErrState)
			answers(t, "Put of another level's", o.Put(slot, x), api.ErrState)
		}
		answers(t, "Put of another level's", l.Put(slot, m[0]), api.ErrState)
		answers(t, "Put of one of a list of its own", l.Put(slot, in), api.ErrState)
		answers(t, "Put of it into the list", own.Put(n[1]), api.ErrState)
	}
	holds(t, l, rows[int]{0: n})
	holds(t, o, rows[int]{0: m})
	if !own.Has(in) || own.Len() != 1 {
		t.Errorf("the list of its own: %v", own.All())
	}
}

func TestPutOfWhatLeftItsList(t *testing.T) {
	l, own := fresh[int](t), list.New[int]()
	a, b := own.Push(1), own.Push(2)
	answers(t, "Unlink", own.Unlink(a), api.OK)
	puts(t, l, 62, a)
	own.Drain()
	puts(t, l, 62, b)
	holds(t, l, rows[int]{62: {a, b}})
	answers(t, "Put back into the list", own.Put(a), api.ErrState)
	answers(t, "Unlink of it by the list", own.Unlink(a), api.ErrNone)
	holds(t, l, rows[int]{62: {a, b}})
}

func TestRemoveAnywhere(t *testing.T) {
	for _, slot := range ends {
		for at := range 4 {
			l, n := filled(t, slot, "a", "b", "c", "d")
			text := n[at].Value
			answers(t, "Remove", l.Remove(slot, n[at]), api.OK)
			rest := slices.Delete(slices.Clone(n), at, at+1)
			holds(t, l, rows[string]{slot: rest})
			free(t, n[at])
			if n[at].Value != text {
				t.Errorf("its Value: %q, want %q", n[at].Value, text)
			}
			answers(t, "Remove again", l.Remove(slot, n[at]), api.ErrNone)
			holds(t, l, rows[string]{slot: rest})
			takes(t, l, slot, rest...)
		}
	}
}

func TestRemoveRefusesNoSlot(t *testing.T) {
	l, n := filled(t, 63, 1)
	first := loose(2)
	puts(t, l, 0, first...)
	for _, slot := range noSlots {
		for _, x := range []*list.Node[int]{n[0], first[0], loose(3)[0], nil} {
			answers(t, "Remove", l.Remove(slot, x), api.ErrRange)
		}
	}
	holds(t, l, rows[int]{0: first, 63: n})
}

func TestRemoveRefusesNil(t *testing.T) {
	l, n := filled(t, 32, 1)
	for _, slot := range ends {
		answers(t, "Remove(nil)", l.Remove(slot, nil), api.ErrInvalid)
	}
	holds(t, l, rows[int]{32: n})
}

func TestRemoveRefusesWhatStandsElsewhere(t *testing.T) {
	l, n := filled(t, 5, 1, 2)
	beside := loose(3)
	puts(t, l, 6, beside...)
	o, m := filled(t, 5, 4)
	own := list.New[int]()
	in, out := own.Push(5), loose(6)[0]
	for slot := range slots {
		if slot != 5 {
			answers(t, "Remove of another slot's", l.Remove(slot, n[0]), api.ErrNone)
			answers(t, "Remove of another slot's", l.Remove(slot, n[1]), api.ErrNone)
		}
		if slot != 6 {
			answers(t, "Remove of another slot's", l.Remove(slot, beside[0]), api.ErrNone)
		}
		answers(t, "Remove of another level's", l.Remove(slot, m[0]), api.ErrNone)
		answers(t, "Remove of another level's", o.Remove(slot, n[0]), api.ErrNone)
		answers(t, "Remove of one of a list of its own", l.Remove(slot, in), api.ErrNone)
		answers(t, "Remove of one in no list", l.Remove(slot, out), api.ErrNone)
	}
	holds(t, l, rows[int]{5: n, 6: beside})
	holds(t, o, rows[int]{5: m})
	if !own.Has(in) {
		t.Error("the list of its own lost its node")
	}
	free(t, out)
}

func TestRemovedIsPutAgain(t *testing.T) {
	l, n := filled(t, 10, 1, 2, 3)
	answers(t, "Remove", l.Remove(10, n[0]), api.OK)
	puts(t, l, 10, n[0])
	holds(t, l, rows[int]{10: {n[1], n[2], n[0]}})
	answers(t, "Remove", l.Remove(10, n[2]), api.OK)
	puts(t, l, 63, n[2])
	holds(t, l, rows[int]{10: {n[1], n[0]}, 63: {n[2]}})
	answers(t, "Remove where it was", l.Remove(10, n[2]), api.ErrNone)
	answers(t, "Put where it was", l.Put(10, n[2]), api.ErrState)
	answers(t, "Remove where it is", l.Remove(63, n[2]), api.OK)
	o := fresh[int](t)
	puts(t, o, 10, n[2])
	holds(t, l, rows[int]{10: {n[1], n[0]}})
	holds(t, o, rows[int]{10: {n[2]}})
}

// P7.2

func TestTakeInOrder(t *testing.T) {
	for _, slot := range ends {
		l, n := filled(t, slot, 3, 1, 2, 1)
		other := (slot + 1) % slots
		m := loose(9, 8)
		puts(t, l, other, m...)
		takes(t, l, slot, n...)
		holds(t, l, rows[int]{other: m})
		if got := values(n); !slices.Equal(got, []int{3, 1, 2, 1}) {
			t.Errorf("Values behind a Take: %v", got)
		}
		for _, x := range n {
			answers(t, "Remove of what is taken", l.Remove(slot, x), api.ErrNone)
		}
		takes(t, l, slot)
		holds(t, l, rows[int]{other: m})
	}
}

func TestTakeOfOrderThatChanged(t *testing.T) {
	l, n := filled(t, 20, "a", "b", "c", "d")
	answers(t, "Remove", l.Remove(20, n[1]), api.OK)
	answers(t, "Remove", l.Remove(20, n[0]), api.OK)
	puts(t, l, 20, n[1])
	if got := l.At(20); !slices.Equal(got, []string{"c", "d", "b"}) {
		t.Errorf("At: %v", got)
	}
	takes(t, l, 20, n[2], n[3], n[1])
	free(t, n[0])
}

func TestTakeAndAtOfNoSlot(t *testing.T) {
	l := fresh[int](t)
	want := rows[int]{}
	for slot := range slots {
		want[slot] = loose(slot)
		puts(t, l, slot, want[slot]...)
	}
	for _, slot := range noSlots {
		if got := l.Take(slot); len(got) != 0 {
			t.Errorf("Take(%d): %v", slot, got)
		}
		if got := l.At(slot); len(got) != 0 {
			t.Errorf("At(%d): %v", slot, got)
		}
	}
	holds(t, l, want)
}

func TestTakenIsPutAgain(t *testing.T) {
	l, n := filled(t, 0, 1, 2, 3)
	takes(t, l, 0, n...)
	puts(t, l, 0, n[2], n[0])
	puts(t, l, 63, n[1])
	holds(t, l, rows[int]{0: {n[2], n[0]}, 63: {n[1]}})
	takes(t, l, 0, n[2], n[0])
	holds(t, l, rows[int]{63: {n[1]}})
	puts(t, l, 63, n[0], n[2])
	holds(t, l, rows[int]{63: {n[1], n[0], n[2]}})
	o := fresh[int](t)
	takes(t, l, 63, n[1], n[0], n[2])
	puts(t, o, 0, n...)
	holds(t, l, nil)
	holds(t, o, rows[int]{0: n})
}

func TestEachIsPutOnWhileTakenIsGoneThrough(t *testing.T) {
	// So a wheel does: what is taken of a slot is placed anew, some of it where it stood.
	l, n := filled(t, 8, 0, 1, 2, 3, 4, 5)
	want := rows[int]{}
	for i, x := range l.Take(8) {
		slot := []int{8, 0, 63}[i%3]
		puts(t, l, slot, x)
		want[slot] = append(want[slot], n[i])
	}
	holds(t, l, want)
}

func TestAtTellsWhatNodesHave(t *testing.T) {
	l, n := filled(t, 40, "a", "b")
	told := l.At(40)
	n[0].Value = "A"
	if got := l.At(40); !slices.Equal(got, []string{"A", "b"}) {
		t.Errorf("At: %v", got)
	}
	if !slices.Equal(told, []string{"a", "b"}) {
		t.Errorf("what was told ahead of that: %v", told)
	}
}

func TestAskingChangesNothing(t *testing.T) {
	l, n := filled(t, 13, 1, 2)
	for range 3 {
		holds(t, l, rows[int]{13: n})
	}
	takes(t, l, 13, n...)
}

func TestAtIsOnesOwn(t *testing.T) {
	l, n := filled(t, 63, 1, 2, 3)
	one, two := l.At(63), l.At(63)
	one[0] = 9
	_ = append(one[:1], 8, 8)
	spare := one[:cap(one)]
	for i := range spare {
		spare[i] = 7
	}
	if !slices.Equal(two, []int{1, 2, 3}) {
		t.Errorf("the other answer: %v", two)
	}
	holds(t, l, rows[int]{63: n})
	puts(t, l, 63, loose(4)...)
	if !slices.Equal(two, []int{1, 2, 3}) || !slices.Equal(l.At(63), []int{1, 2, 3, 4}) {
		t.Errorf("behind a Put: %v, At: %v", two, l.At(63))
	}
}

func TestTakeIsOnesOwn(t *testing.T) {
	l, n := filled(t, 0, 1, 2, 3)
	told := l.Take(0)
	puts(t, l, 0, n...)
	// What is done to the answer, its spare room too, is not done to the level.
	spare := told[:cap(told)]
	for i := range spare {
		spare[i] = nil
	}
	holds(t, l, rows[int]{0: n})
	again := l.Take(0)
	if !slices.Equal(again, n) {
		t.Errorf("Take again: %v, want %v", again, n)
	}
	if slices.ContainsFunc(told, func(x *list.Node[int]) bool { return x != nil }) {
		t.Errorf("the first answer behind the second one: %v", told)
	}
	m := loose(4, 5, 6)
	puts(t, l, 0, m...)
	takes(t, l, 0, m...)
	if !slices.Equal(again, n) {
		t.Errorf("the second answer behind the third one: %v", again)
	}
}

func TestMapIsOnesOwn(t *testing.T) {
	l, n := filled(t, 3, 1)
	m := l.Map()
	m = m.With(40).Without(3)
	holds(t, l, rows[int]{3: n})
	told := l.Map()
	takes(t, l, 3, n...)
	if !told.Has(3) || m.Has(3) {
		t.Errorf("what was told: %v, %v", told.All(), m.All())
	}
}

func TestNilLevel(t *testing.T) {
	var none *level.Level[int]
	l, n := filled(t, 0, 1)
	out := loose(2)[0]
	for _, slot := range slices.Concat(ends, noSlots) {
		for _, x := range []*list.Node[int]{out, n[0], nil} {
			answers(t, "Put", none.Put(slot, x), api.ErrNone)
			answers(t, "Remove", none.Remove(slot, x), api.ErrNone)
		}
		if got := none.Take(slot); len(got) != 0 {
			t.Errorf("Take(%d): %v", slot, got)
		}
		if got := none.At(slot); len(got) != 0 {
			t.Errorf("At(%d): %v", slot, got)
		}
	}
	if none.Map() != 0 || none.Len() != 0 {
		t.Errorf("Map: %v, Len: %d", none.Map().All(), none.Len())
	}
	// What it refused is as it was.
	holds(t, l, rows[int]{0: n})
	free(t, out)
}

func TestZeroNode(t *testing.T) {
	l, zero := fresh[string](t), &list.Node[string]{}
	answers(t, "Remove of a zero node", l.Remove(0, zero), api.ErrNone)
	puts(t, l, 0, zero)
	holds(t, l, rows[string]{0: {zero}})
	takes(t, l, 0, zero)
}

func TestOfWhatCannotBeCompared(t *testing.T) {
	l, n := filled(t, 1, place{"x", []int{1}}, place{"y", nil}, place{})
	answers(t, "Remove", l.Remove(1, n[1]), api.OK)
	if got := l.At(1); len(got) != 2 || got[0].name != "x" || !slices.Equal(got[0].at, []int{1}) || got[1].name != "" {
		t.Errorf("At: %v", got)
	}
	takes(t, l, 1, n[0], n[2])
	calls := 0
	f, m := filled(t, 63, func() { calls++ }, nil, func() { calls += 10 })
	answers(t, "Remove of the nil one", f.Remove(63, m[1]), api.OK)
	for _, x := range f.At(63) {
		x()
	}
	if calls != 11 || f.Len() != 2 {
		t.Errorf("calls: %d, Len: %d", calls, f.Len())
	}
}

// P7.3

func TestBitIsSetWithTheFirstAndGoneWithTheLast(t *testing.T) {
	for slot := range slots {
		l, n := fresh[int](t), loose(1, 2, 3)
		for i, x := range n {
			if l.Map().Has(slot) != (i > 0) {
				t.Errorf("slot %d with %d nodes: Map: %v", slot, i, l.Map().All())
			}
			puts(t, l, slot, x)
		}
		for i, x := range n {
			if l.Map() != bits.Map(0).With(slot) {
				t.Errorf("slot %d with %d nodes: Map: %v", slot, 3-i, l.Map().All())
			}
			answers(t, "Remove", l.Remove(slot, x), api.OK)
		}
		holds(t, l, nil)
	}
}

func TestEmptiedByRemoveAndByTake(t *testing.T) {
	for _, slot := range ends {
		l, n := filled(t, slot, 1)
		beside := (slot + 33) % slots
		m := loose(2)
		puts(t, l, beside, m...)
		answers(t, "Remove", l.Remove(slot, n[0]), api.OK)
		holds(t, l, rows[int]{beside: m})
		answers(t, "Remove of a slot that is empty", l.Remove(slot, n[0]), api.ErrNone)
		answers(t, "Put(nil) into it", l.Put(slot, nil), api.ErrInvalid)
		answers(t, "Put of the other slot's", l.Put(slot, m[0]), api.ErrState)
		takes(t, l, slot)
		holds(t, l, rows[int]{beside: m})
		puts(t, l, slot, n...)
		holds(t, l, rows[int]{slot: n, beside: m})
		takes(t, l, slot, n...)
		holds(t, l, rows[int]{beside: m})
		answers(t, "Put(nil) into it", l.Put(slot, nil), api.ErrInvalid)
		holds(t, l, rows[int]{beside: m})
		takes(t, l, beside, m...)
		holds(t, l, nil)
	}
}

func TestAllSlotsAreFilledAndEmptied(t *testing.T) {
	l, want := fresh[int](t), rows[int]{}
	for slot := range slots {
		want[slot] = loose(slot, -slot)
		puts(t, l, slot, want[slot]...)
	}
	if l.Map() != bits.Map(math.MaxUint64) || l.Len() != 2*slots {
		t.Errorf("Map: %v, Len: %d", l.Map().All(), l.Len())
	}
	for i := range slots {
		slot := i * 37 % slots
		takes(t, l, slot, want[slot]...)
		delete(want, slot)
		holds(t, l, want)
	}
}
