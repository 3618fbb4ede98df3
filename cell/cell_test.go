package cell_test

import (
	"math"
	"testing"

	"verge/cell"
)

// place is a struct that can be compared.
type place struct {
	name string
	at   [2]uint64
}

// counted holds a cell's counts against those that are wanted.
func counted[T comparable](t *testing.T, c *cell.Cell[T], loads, tries, turned int) {
	t.Helper()
	if a, b, d := c.Counts(); a != loads || b != tries || d != turned {
		t.Errorf("Counts: %d, %d, %d, want %d, %d, %d", a, b, d, loads, tries, turned)
	}
}

// holds looks at a cell's value without a load that counts in the cell itself.
func holds[T comparable](t *testing.T, c *cell.Cell[T], want T) {
	t.Helper()
	other := *c
	if got := other.Load(); got != want {
		t.Errorf("it holds %v, want %v", got, want)
	}
}

// to is a function for Turn that answers these, and counts how often it was asked, and of what.
type to[T comparable] struct {
	v     T
	so    bool
	asked []T
}

func (n *to[T]) next(v T) (T, bool) {
	n.asked = append(n.asked, v)
	return n.v, n.so
}

// P3.1

func TestOfAndLoad(t *testing.T) {
	for _, v := range []int{0, 1, -1, 3, math.MinInt, math.MaxInt} {
		c := cell.Of(v)
		counted(t, c, 0, 0, 0)
		for n := range 3 {
			if got := c.Load(); got != v {
				t.Errorf("Load of Of(%d): %d", v, got)
			}
			counted(t, c, n+1, 0, 0)
		}
		holds(t, c, v)
	}
}

func TestOfMakesACellOfItsOwn(t *testing.T) {
	a, b := cell.Of(3), cell.Of(3)
	a.Store(4)
	a.Swap(4, 5)
	a.Load()
	holds(t, a, 5)
	counted(t, a, 1, 1, 1)
	holds(t, b, 3)
	counted(t, b, 0, 0, 0)
}

func TestStore(t *testing.T) {
	c := cell.Of(3)
	for _, v := range []int{4, 4, 0, -9, math.MaxInt, 3} {
		c.Store(v)
		holds(t, c, v)
		counted(t, c, 0, 0, 0)
	}
}

func TestSwap(t *testing.T) {
	for _, q := range []struct {
		held, old, new int
		is             bool
	}{
		{3, 3, 4, true}, {3, 4, 5, false}, {3, 4, 3, false}, {3, 3, 3, true},
		{3, 0, 4, false}, {0, 0, 0, true}, {0, 0, 1, true}, {0, 1, 0, false},
		{-3, 3, 1, false}, {math.MinInt, math.MinInt, math.MaxInt, true},
	} {
		c := cell.Of(q.held)
		if got := c.Swap(q.old, q.new); got != q.is {
			t.Errorf("Swap(%d, %d) of %d: %t, want %t", q.old, q.new, q.held, got, q.is)
		}
		if q.is {
			holds(t, c, q.new)
			counted(t, c, 0, 1, 1)
		} else {
			holds(t, c, q.held)
			counted(t, c, 0, 1, 0)
		}
	}
}

func TestSwapBehindStore(t *testing.T) {
	c := cell.Of(3)
	c.Store(4)
	if c.Swap(3, 5) || !c.Swap(4, 6) {
		t.Error("Swap holds another value than the stored one against the old one")
	}
	holds(t, c, 6)
	counted(t, c, 0, 2, 1)
}

func TestTheExample(t *testing.T) {
	c := cell.Of(3)
	if !c.Swap(3, 4) || c.Swap(3, 5) || c.Load() != 4 {
		t.Error("Swap(3, 4), Swap(3, 5), Load of Of(3) aren't true, false, 4")
	}
	counted(t, c, 1, 2, 1)
}

// P3.2

func TestTurnThatSaysSo(t *testing.T) {
	for _, v := range []int{4, 3, 0, -1} {
		c := cell.Of(3)
		n := &to[int]{v: v, so: true}
		if was, is := c.Turn(n.next); was != 3 || !is {
			t.Errorf("Turn to %d: %d, %t, want 3, true", v, was, is)
		}
		if len(n.asked) != 1 || n.asked[0] != 3 {
			t.Errorf("asked of %v, want of 3, once", n.asked)
		}
		holds(t, c, v)
		counted(t, c, 1, 1, 1)
	}
}

func TestTurnThatDoesNotSaySo(t *testing.T) {
	for _, v := range []int{4, 3, 0, -1} {
		c := cell.Of(3)
		n := &to[int]{v: v}
		if was, is := c.Turn(n.next); was != 3 || is {
			t.Errorf("Turn to %d, which isn't so: %d, %t, want 3, false", v, was, is)
		}
		if len(n.asked) != 1 || n.asked[0] != 3 {
			t.Errorf("asked of %v, want of 3, once", n.asked)
		}
		holds(t, c, 3)
		counted(t, c, 1, 0, 0)
	}
}

func TestTurnByTurn(t *testing.T) {
	c := cell.Of(uint64(0))
	up := func(v uint64) (uint64, bool) { return v + 1, v < 5 }
	for n := range uint64(8) {
		was, is := c.Turn(up)
		if was != min(n, 5) || is != (n < 5) {
			t.Errorf("Turn %d: %d, %t", n, was, is)
		}
	}
	holds(t, c, 5)
	counted(t, c, 8, 5, 5)
}

func TestTurnByNoFunction(t *testing.T) {
	c := cell.Of(3)
	if was, is := c.Turn(nil); was != 3 || is {
		t.Errorf("Turn(nil): %d, %t, want 3, false", was, is)
	}
	holds(t, c, 3)
	counted(t, c, 1, 0, 0)
}

// P3.3

// steps are calls by which a cell is brought on; each also brings on what the cell is to be.
func steps() []func(t *testing.T, c *cell.Cell[int], m *model) {
	load := func(t *testing.T, c *cell.Cell[int], m *model) {
		m.loads++
		if got := c.Load(); got != m.value {
			t.Errorf("Load: %d, want %d", got, m.value)
		}
	}
	store := func(_ *testing.T, c *cell.Cell[int], m *model) {
		c.Store(2)
		m.value = 2
	}
	swap := func(t *testing.T, c *cell.Cell[int], m *model) {
		want := m.value == 0
		m.try(1, want)
		if got := c.Swap(0, 1); got != want {
			t.Errorf("Swap(0, 1): %t, want %t", got, want)
		}
	}
	turn := func(so bool) func(*testing.T, *cell.Cell[int], *model) {
		return func(t *testing.T, c *cell.Cell[int], m *model) {
			want := m.value
			m.loads++
			if so {
				m.try(0, true)
			}
			n := &to[int]{so: so}
			if was, is := c.Turn(n.next); was != want || is != so || len(n.asked) != 1 {
				t.Errorf("Turn: %d, %t, asked of %v, want %d, %t", was, is, n.asked, want, so)
			}
		}
	}
	return []func(*testing.T, *cell.Cell[int], *model){load, store, swap, turn(true), turn(false)}
}

// model is what a cell is to be.
type model struct {
	value, loads, tries, turned int
}

func (m *model) try(v int, may bool) {
	m.tries++
	if may {
		m.value = v
		m.turned++
	}
}

func TestCountsOfEveryRowOfFiveCalls(t *testing.T) {
	all := steps()
	rows := 1
	for range 5 {
		rows *= len(all)
	}
	for row := range rows {
		c, m := cell.Of(0), &model{}
		for rest, n := row, 0; n < 5; rest, n = rest/len(all), n+1 {
			all[rest%len(all)](t, c, m)
			counted(t, c, m.loads, m.tries, m.turned)
			holds(t, c, m.value)
		}
		if t.Failed() {
			t.Fatalf("the row %d", row)
		}
	}
}

func TestCountsAreNoCallThatCounts(t *testing.T) {
	c := cell.Of(3)
	c.Load()
	c.Swap(3, 4)
	c.Swap(3, 4)
	for range 5 {
		counted(t, c, 1, 2, 1)
	}
	holds(t, c, 4)
}

// What the brackets ahead of the promises say of a zero cell, and of a nil one.

func TestZeroCell(t *testing.T) {
	var a, b, c, d cell.Cell[int]
	counted(t, &a, 0, 0, 0)
	if a.Load() != 0 {
		t.Error("Load of a zero cell isn't 0")
	}
	counted(t, &a, 1, 0, 0)
	b.Store(7)
	holds(t, &b, 7)
	counted(t, &b, 0, 0, 0)
	if c.Swap(1, 7) || !c.Swap(0, 0) || !c.Swap(0, 7) {
		t.Error("Swap of a zero cell")
	}
	holds(t, &c, 7)
	counted(t, &c, 0, 3, 2)
	n := &to[int]{v: 7, so: true}
	if was, is := d.Turn(n.next); was != 0 || !is || len(n.asked) != 1 || n.asked[0] != 0 {
		t.Errorf("Turn of a zero cell: %d, %t, asked of %v", was, is, n.asked)
	}
	holds(t, &d, 7)
	counted(t, &d, 1, 1, 1)
}

func TestZeroCellOfOtherTypes(t *testing.T) {
	var text cell.Cell[string]
	if text.Load() != "" || !text.Swap("", "a") || text.Load() != "a" {
		t.Error("a zero cell of texts")
	}
	var places cell.Cell[place]
	if places.Load() != (place{}) || !places.Swap(place{}, place{name: "a"}) || places.Load() != (place{name: "a"}) {
		t.Error("a zero cell of structs")
	}
}

func TestNilCell(t *testing.T) {
	var c *cell.Cell[place]
	one := place{"a", [2]uint64{1, 2}}
	n := &to[place]{v: one, so: true}
	for range 2 {
		if c.Load() != (place{}) {
			t.Error("Load of a nil cell isn't a zero value")
		}
		c.Store(one)
		if c.Swap(place{}, one) || c.Swap(one, place{}) {
			t.Error("Swap of a nil cell isn't false")
		}
		if was, is := c.Turn(n.next); was != (place{}) || is {
			t.Errorf("Turn of a nil cell: %v, %t", was, is)
		}
		if was, is := c.Turn(nil); was != (place{}) || is {
			t.Errorf("Turn(nil) of a nil cell: %v, %t", was, is)
		}
		counted(t, c, 0, 0, 0)
	}
	if len(n.asked) != 0 {
		t.Errorf("Turn of a nil cell asked of %v", n.asked)
	}
}

// Cells of any type that can be compared.

func TestCellOfTexts(t *testing.T) {
	c := cell.Of("a")
	if c.Swap("", "c") || c.Swap("A", "c") || c.Swap("a ", "c") || !c.Swap(string([]byte{97}), "b") {
		t.Error("Swap of a cell of texts")
	}
	if was, is := c.Turn(func(s string) (string, bool) { return s + "!", true }); was != "b" || !is {
		t.Errorf("Turn of a cell of texts: %q, %t", was, is)
	}
	if got := c.Load(); got != "b!" {
		t.Errorf("Load of a cell of texts: %q", got)
	}
	counted(t, c, 2, 5, 2)
}

func TestCellOfStructs(t *testing.T) {
	a, b := place{"a", [2]uint64{1, 2}}, place{"b", [2]uint64{1, 2}}
	c := cell.Of(a)
	for _, other := range []place{{}, b, {"a", [2]uint64{1, 3}}, {"a", [2]uint64{0, 2}}} {
		if c.Swap(other, b) {
			t.Errorf("Swap from %v of a cell that holds %v", other, a)
		}
	}
	holds(t, c, a)
	if !c.Swap(place{"a", [2]uint64{1, 2}}, b) {
		t.Error("Swap from a struct of the same fields isn't so")
	}
	was, is := c.Turn(func(p place) (place, bool) {
		p.at[1]++
		return p, true
	})
	if was != b || !is {
		t.Errorf("Turn: %v, %t, want %v, true", was, is, b)
	}
	holds(t, c, place{"b", [2]uint64{1, 3}})
	counted(t, c, 1, 6, 2)
}

func TestCellOfPointers(t *testing.T) {
	a, b := &place{}, &place{}
	c := cell.Of(a)
	if c.Swap(b, nil) || c.Swap(nil, b) || !c.Swap(a, b) || c.Load() != b {
		t.Error("a cell of pointers")
	}
	counted(t, c, 1, 3, 1)
}

// A number that isn't one is not even the same as itself.
func TestCellOfFloats(t *testing.T) {
	c := cell.Of(math.NaN())
	if c.Swap(math.NaN(), 1) {
		t.Error("Swap from NaN is so")
	}
	if was, is := c.Turn(func(float64) (float64, bool) { return 0, true }); was == was || !is {
		t.Errorf("Turn from NaN: %g, %t", was, is)
	}
	if !c.Swap(math.Copysign(0, -1), 1) {
		t.Error("Swap from -0 of a cell that holds 0 isn't so")
	}
	counted(t, c, 1, 3, 2)
}

// Values of an interface may hold what can't be compared: no call panics for that.
func TestCellOfWhatCanNotBeCompared(t *testing.T) {
	c := cell.Of[any](3)
	if c.Swap("3", 4) || c.Swap([]int{3}, 4) || c.Swap(nil, 4) || !c.Swap(3, []int{3}) {
		t.Error("Swap of a cell of any that holds 3")
	}
	counted(t, c, 0, 4, 1)
	if c.Swap([]int{3}, 4) || c.Swap(map[string]int{}, 4) || c.Swap(3, 4) || c.Swap(nil, 4) {
		t.Error("Swap of a cell that holds a slice is so")
	}
	counted(t, c, 0, 8, 1)
	was, is := c.Turn(func(v any) (any, bool) { return len(v.([]int)), true })
	if l, ok := was.([]int); !ok || len(l) != 1 || l[0] != 3 || !is {
		t.Errorf("Turn of a cell that holds a slice: %v, %t", was, is)
	}
	if !c.Swap(1, nil) || c.Load() != nil {
		t.Error("Swap of a cell of any that holds 1")
	}
	counted(t, c, 2, 10, 3)
}

// P3.4

func TestOneOfTheTriesTurnsIt(t *testing.T) {
	for first := range 5 {
		c := cell.Of("old")
		turned := 0
		for n := range 5 {
			if c.Swap("old", string(rune('a'+(first+n)%5))) {
				turned++
			}
		}
		if turned != 1 {
			t.Errorf("%d tries turned it", turned)
		}
		holds(t, c, string(rune('a'+first)))
		counted(t, c, 0, 5, 1)
	}
}

func TestOneOfTheTriesBehindOneLoadTurnsIt(t *testing.T) {
	c := cell.Of(uint64(0))
	for round := range uint64(4) {
		old, turned := c.Load(), 0
		for n := range uint64(6) {
			if c.Swap(old, old+1+n) {
				turned++
			}
		}
		if old != round || turned != 1 {
			t.Errorf("round %d: of %d, %d tries turned it", round, old, turned)
		}
	}
	holds(t, c, 4)
	counted(t, c, 4, 24, 4)
}

func TestOneOfTheTriesByTurnTurnsIt(t *testing.T) {
	c := cell.Of(-1)
	for who := range 5 {
		was, is := c.Turn(func(v int) (int, bool) { return who, v == -1 })
		if want := min(who, 1) - 1; was != want || is != (who == 0) {
			t.Errorf("Turn by %d: %d, %t", who, was, is)
		}
	}
	holds(t, c, 0)
	counted(t, c, 5, 1, 1)
}
