package list_test

import (
	"slices"
	"testing"

	"verge/api"
	"verge/list"
)

// place is a struct whose values can't be compared: a list is of any type.
type place struct {
	name string
	at   []int
}

// row is a list with these values, and their nodes.
func row[T any](t *testing.T, values ...T) (*list.List[T], []*list.Node[T]) {
	t.Helper()
	l := list.New[T]()
	if l == nil {
		t.Fatal("New: nil")
	}
	var nodes []*list.Node[T]
	for _, v := range values {
		n := l.Push(v)
		if n == nil {
			t.Fatalf("Push(%v): nil", v)
		}
		nodes = append(nodes, n)
	}
	return l, nodes
}

// answers holds an error against the one that is wanted.
func answers(t *testing.T, what string, e, want api.Errno) {
	t.Helper()
	if e != want {
		t.Errorf("%s: %d, want %d", what, e, want)
	}
}

// holds asks a list for all that it tells of itself: it has these nodes, in this order.
func holds[T comparable](t *testing.T, l *list.List[T], nodes ...*list.Node[T]) {
	t.Helper()
	var values []T
	for _, n := range nodes {
		values = append(values, n.Value)
		if !l.Has(n) {
			t.Errorf("has no node with %v", n.Value)
		}
	}
	if got := l.All(); !slices.Equal(got, values) {
		t.Errorf("All: %v, want %v", got, values)
	}
	if l.Len() != len(nodes) {
		t.Errorf("Len: %d, want %d", l.Len(), len(nodes))
	}
	var first *list.Node[T]
	if len(nodes) > 0 {
		first = nodes[0]
	}
	if l.First() != first {
		t.Errorf("First: %v, want %v", l.First(), first)
	}
}

// lacks asks whether none of these nodes is in a list.
func lacks[T any](t *testing.T, l *list.List[T], nodes ...*list.Node[T]) {
	t.Helper()
	for _, n := range nodes {
		if l.Has(n) {
			t.Errorf("has the node with %v", n.Value)
		}
	}
}

// drains takes all out of a list, which must be these values.
func drains[T comparable](t *testing.T, l *list.List[T], want ...T) {
	t.Helper()
	if got := l.Drain(); !slices.Equal(got, want) {
		t.Errorf("Drain: %v, want %v", got, want)
	}
	holds(t, l)
}

// The chapter's example.

func TestExample(t *testing.T) {
	l, n := row(t, "a", "b", "c")
	answers(t, "Unlink of b", l.Unlink(n[1]), api.OK)
	holds(t, l, n[0], n[2])
	if got := l.All(); !slices.Equal(got, []string{"a", "c"}) {
		t.Errorf("All: %v", got)
	}
	o, m := row(t, "d")
	answers(t, "Splice", l.Splice(o), api.OK)
	holds(t, l, n[0], n[2], m[0])
	if got := l.All(); !slices.Equal(got, []string{"a", "c", "d"}) {
		t.Errorf("All: %v", got)
	}
}

// P5.1

func TestNewIsEmpty(t *testing.T) {
	l, _ := row[int](t)
	holds(t, l)
	drains(t, l)
	o, n := row(t, 1)
	lacks(t, l, n[0])
	holds(t, o, n[0])
}

func TestPushStandsBehind(t *testing.T) {
	l, _ := row[int](t)
	var nodes []*list.Node[int]
	for i := range 100 {
		n := l.Push(i % 7)
		if n == nil || n.Value != i%7 {
			t.Fatalf("Push(%d): %v", i%7, n)
		}
		if slices.Contains(nodes, n) {
			t.Fatalf("Push(%d): a node that was there", i%7)
		}
		nodes = append(nodes, n)
		holds(t, l, nodes...)
	}
}

func TestPutStandsBehind(t *testing.T) {
	l, n := row(t, 1, 2)
	hand := &list.Node[int]{Value: 3}
	answers(t, "Put", l.Put(hand), api.OK)
	holds(t, l, n[0], n[1], hand)
	last := l.Push(4)
	holds(t, l, n[0], n[1], hand, last)
}

func TestPutRefusesNil(t *testing.T) {
	l, n := row(t, 1, 2)
	answers(t, "Put(nil)", l.Put(nil), api.ErrInvalid)
	holds(t, l, n...)
	empty, _ := row[int](t)
	answers(t, "Put(nil)", empty.Put(nil), api.ErrInvalid)
	holds(t, empty)
}

func TestPutRefusesWhatIsInAList(t *testing.T) {
	l, n := row(t, 1, 2, 3)
	o, m := row(t, 4)
	for _, x := range n {
		answers(t, "Put of one that is here", l.Put(x), api.ErrState)
		answers(t, "Put of one that is elsewhere", o.Put(x), api.ErrState)
	}
	answers(t, "Put of the only one", o.Put(m[0]), api.ErrState)
	holds(t, l, n...)
	holds(t, o, m...)
	answers(t, "Splice", l.Splice(o), api.OK)
	answers(t, "Put of one that was spliced in", l.Put(m[0]), api.ErrState)
	answers(t, "Put of one that was spliced away", o.Put(m[0]), api.ErrState)
	answers(t, "Put of one that was there ahead", o.Put(n[0]), api.ErrState)
	holds(t, l, n[0], n[1], n[2], m[0])
	holds(t, o)
}

func TestUnlinkAnywhere(t *testing.T) {
	for length := 1; length <= 6; length++ {
		for at := range length {
			values := make([]int, length)
			for i := range values {
				values[i] = 10 + i
			}
			l, n := row(t, values...)
			gone := n[at]
			answers(t, "Unlink", l.Unlink(gone), api.OK)
			if gone.Value != 10+at {
				t.Errorf("its Value: %d, want %d", gone.Value, 10+at)
			}
			rest := slices.Delete(slices.Clone(n), at, at+1)
			holds(t, l, rest...)
			lacks(t, l, gone)
			answers(t, "Unlink again", l.Unlink(gone), api.ErrNone)
			holds(t, l, rest...)
			last := l.Push(99)
			holds(t, l, append(rest, last)...)
		}
	}
}

func TestUnlinkEachInAnyOrder(t *testing.T) {
	orders := [][]int{{0, 1, 2}, {0, 2, 1}, {1, 0, 2}, {1, 2, 0}, {2, 0, 1}, {2, 1, 0}}
	for _, order := range orders {
		l, n := row(t, 1, 2, 3)
		left := slices.Clone(n)
		for _, at := range order {
			answers(t, "Unlink", l.Unlink(n[at]), api.OK)
			left = slices.DeleteFunc(left, func(x *list.Node[int]) bool { return x == n[at] })
			holds(t, l, left...)
			lacks(t, l, n[at])
		}
	}
}

func TestUnlinkRefuses(t *testing.T) {
	l, n := row(t, 1, 2)
	o, m := row(t, 3, 4)
	answers(t, "Unlink(nil)", l.Unlink(nil), api.ErrInvalid)
	for _, x := range m {
		answers(t, "Unlink of another list's", l.Unlink(x), api.ErrNone)
	}
	for _, x := range n {
		answers(t, "Unlink of another list's", o.Unlink(x), api.ErrNone)
	}
	empty, _ := row[int](t)
	answers(t, "Unlink(nil) of an empty list", empty.Unlink(nil), api.ErrInvalid)
	answers(t, "Unlink of an empty list", empty.Unlink(n[0]), api.ErrNone)
	holds(t, l, n...)
	holds(t, o, m...)
	holds(t, empty)
}

func TestPutAgainBehindUnlink(t *testing.T) {
	l, n := row(t, 1, 2, 3)
	o, m := row(t, 4)
	answers(t, "Unlink", l.Unlink(n[0]), api.OK)
	answers(t, "Put", l.Put(n[0]), api.OK)
	holds(t, l, n[1], n[2], n[0])
	answers(t, "Put again", l.Put(n[0]), api.ErrState)
	answers(t, "Unlink", l.Unlink(n[2]), api.OK)
	answers(t, "Put elsewhere", o.Put(n[2]), api.OK)
	holds(t, l, n[1], n[0])
	holds(t, o, m[0], n[2])
	answers(t, "Unlink where it was", l.Unlink(n[2]), api.ErrNone)
	answers(t, "Unlink where it is", o.Unlink(n[2]), api.OK)
	holds(t, o, m[0])
	answers(t, "Unlink", l.Unlink(n[1]), api.OK)
	answers(t, "Unlink", l.Unlink(n[0]), api.OK)
	answers(t, "Put into what became empty", l.Put(n[0]), api.OK)
	holds(t, l, n[0])
}

func TestValueIsChangedThroughItsNode(t *testing.T) {
	l, n := row(t, "a", "b", "c")
	n[1].Value = "B"
	if got := l.All(); !slices.Equal(got, []string{"a", "B", "c"}) {
		t.Errorf("All: %v", got)
	}
	l.First().Value = "A"
	if n[0].Value != "A" {
		t.Errorf("the first node's Value: %s", n[0].Value)
	}
	answers(t, "Unlink", l.Unlink(n[1]), api.OK)
	n[1].Value = "x"
	answers(t, "Put", l.Put(n[1]), api.OK)
	drains(t, l, "A", "c", "x")
	if n[0].Value != "A" || n[2].Value != "c" || n[1].Value != "x" {
		t.Errorf("Values behind the Drain: %s, %s, %s", n[0].Value, n[2].Value, n[1].Value)
	}
}

// P5.2

func TestSpliceInOrder(t *testing.T) {
	for have := range 4 {
		for come := range 4 {
			l, n := row(t, []int{1, 2, 3}[:have]...)
			o, m := row(t, []int{4, 5, 6}[:come]...)
			answers(t, "Splice", l.Splice(o), api.OK)
			all := append(slices.Clone(n), m...)
			holds(t, l, all...)
			holds(t, o)
			lacks(t, o, all...)
			// Both go on: what comes stands behind what is there.
			last, other := l.Push(7), o.Push(8)
			holds(t, l, append(all, last)...)
			holds(t, o, other)
			lacks(t, l, other)
			lacks(t, o, last)
		}
	}
}

func TestSpliceRefuses(t *testing.T) {
	l, n := row(t, 1, 2)
	answers(t, "Splice(nil)", l.Splice(nil), api.ErrInvalid)
	answers(t, "Splice of itself", l.Splice(l), api.ErrInvalid)
	holds(t, l, n...)
	empty, _ := row[int](t)
	answers(t, "Splice(nil)", empty.Splice(nil), api.ErrInvalid)
	answers(t, "Splice of itself", empty.Splice(empty), api.ErrInvalid)
	holds(t, empty)
}

func TestUnlinkBehindSplice(t *testing.T) {
	for at := range 3 {
		l, n := row(t, 1, 2)
		o, m := row(t, 3, 4, 5)
		answers(t, "Splice", l.Splice(o), api.OK)
		answers(t, "Unlink where it came from", o.Unlink(m[at]), api.ErrNone)
		holds(t, l, append(slices.Clone(n), m...)...)
		answers(t, "Unlink where it is", l.Unlink(m[at]), api.OK)
		rest := append(slices.Clone(n), slices.Delete(slices.Clone(m), at, at+1)...)
		holds(t, l, rest...)
		answers(t, "Put where it came from", o.Put(m[at]), api.OK)
		holds(t, o, m[at])
		answers(t, "Splice back", o.Splice(l), api.OK)
		holds(t, o, append([]*list.Node[int]{m[at]}, rest...)...)
		holds(t, l)
	}
}

func TestSpliceOnwards(t *testing.T) {
	a, n := row(t, 1)
	b, m := row(t, 2)
	c, k := row(t, 3)
	answers(t, "Splice", b.Splice(a), api.OK)
	answers(t, "Splice", c.Splice(b), api.OK)
	holds(t, a)
	holds(t, b)
	holds(t, c, k[0], m[0], n[0])
	answers(t, "Unlink", c.Unlink(n[0]), api.OK)
	holds(t, c, k[0], m[0])
}

func TestDrain(t *testing.T) {
	l, n := row(t, 3, 1, 2)
	drains(t, l, 3, 1, 2)
	lacks(t, l, n...)
	drains(t, l)
	for _, x := range n {
		answers(t, "Unlink of what is drained", l.Unlink(x), api.ErrNone)
	}
	if n[0].Value != 3 || n[1].Value != 1 || n[2].Value != 2 {
		t.Errorf("Values: %d, %d, %d", n[0].Value, n[1].Value, n[2].Value)
	}
}

// P5.3

func TestAllIsOnesOwn(t *testing.T) {
	l, n := row(t, 1, 2, 3)
	one, two := l.All(), l.All()
	one[0] = 9
	_ = append(one[:1], 8, 8)
	if !slices.Equal(two, []int{1, 2, 3}) {
		t.Errorf("the other answer: %v", two)
	}
	holds(t, l, n...)
	if n[0].Value != 1 || n[1].Value != 2 || n[2].Value != 3 {
		t.Errorf("Values: %d, %d, %d", n[0].Value, n[1].Value, n[2].Value)
	}
	l.Push(4)
	if !slices.Equal(two, []int{1, 2, 3}) {
		t.Errorf("an answer behind a Push: %v", two)
	}
	n[0].Value = 7
	if two[0] != 1 {
		t.Errorf("an answer behind a changed Value: %v", two)
	}
}

func TestDrainIsOnesOwn(t *testing.T) {
	l, n := row(t, 1, 2, 3)
	told := l.Drain()
	told[0] = 9
	_ = append(told, 9)
	for _, x := range n {
		answers(t, "Put", l.Put(x), api.OK)
	}
	again := l.Drain()
	if !slices.Equal(again, []int{1, 2, 3}) {
		t.Errorf("Drain again: %v", again)
	}
	again[1] = 8
	if !slices.Equal(told, []int{9, 2, 3}) || n[0].Value != 1 || n[1].Value != 2 {
		t.Errorf("the first answer: %v, the Values: %d, %d", told, n[0].Value, n[1].Value)
	}
}

func TestAskingChangesNothing(t *testing.T) {
	l, n := row(t, 1, 2)
	o, _ := row[int](t)
	for range 3 {
		holds(t, l, n...)
		lacks(t, o, n...)
		if l.Has(nil) || o.Has(nil) {
			t.Error("has a nil node")
		}
	}
}

func TestFirstMovesOn(t *testing.T) {
	l, n := row(t, 1, 2, 3)
	for _, x := range n {
		if l.First() != x {
			t.Errorf("First: %v, want %v", l.First(), x)
		}
		answers(t, "Unlink of the first", l.Unlink(l.First()), api.OK)
	}
	holds(t, l)
}

func TestNilList(t *testing.T) {
	var none *list.List[int]
	l, n := row(t, 1, 2)
	free := &list.Node[int]{Value: 3}
	if got := none.Push(1); got != nil {
		t.Errorf("Push: %v", got)
	}
	for _, x := range []*list.Node[int]{free, n[0], nil} {
		answers(t, "Put", none.Put(x), api.ErrNone)
		answers(t, "Unlink", none.Unlink(x), api.ErrNone)
		if none.Has(x) {
			t.Errorf("has %v", x)
		}
	}
	for _, o := range []*list.List[int]{l, list.New[int](), nil} {
		answers(t, "Splice", none.Splice(o), api.ErrNone)
	}
	if got := none.Drain(); len(got) != 0 {
		t.Errorf("Drain: %v", got)
	}
	if got := none.All(); len(got) != 0 {
		t.Errorf("All: %v", got)
	}
	if none.First() != nil || none.Len() != 0 {
		t.Errorf("First: %v, Len: %d", none.First(), none.Len())
	}
	// What it refused is as it was.
	holds(t, l, n...)
	answers(t, "Put behind that", l.Put(free), api.OK)
	holds(t, l, n[0], n[1], free)
}

func TestZeroNode(t *testing.T) {
	l, n := row(t, 5)
	zero := &list.Node[int]{}
	lacks(t, l, zero)
	answers(t, "Unlink of a zero node", l.Unlink(zero), api.ErrNone)
	answers(t, "Put of a zero node", l.Put(zero), api.OK)
	answers(t, "Put again", l.Put(zero), api.ErrState)
	holds(t, l, n[0], zero)
	zero.Value = 6
	answers(t, "Unlink", l.Unlink(zero), api.OK)
	holds(t, l, n...)
	var one list.Node[string]
	texts, _ := row[string](t)
	answers(t, "Put of a zero node", texts.Put(&one), api.OK)
	holds(t, texts, &one)
	drains(t, texts, "")
}

func TestZeroListIsEmpty(t *testing.T) {
	var zero list.List[int]
	holds(t, &zero)
	a, b := zero.Push(1), zero.Push(2)
	holds(t, &zero, a, b)
	answers(t, "Unlink", zero.Unlink(a), api.OK)
	drains(t, &zero, 2)
}

func TestOfStructs(t *testing.T) {
	l, n := row(t, place{"x", []int{1}}, place{"y", nil}, place{})
	answers(t, "Unlink", l.Unlink(n[1]), api.OK)
	if got := l.All(); len(got) != 2 || got[0].name != "x" || !slices.Equal(got[0].at, []int{1}) || got[1].name != "" {
		t.Errorf("All: %v", got)
	}
	n[2].Value.name = "z"
	o, _ := row(t, place{name: "w"})
	answers(t, "Splice", o.Splice(l), api.OK)
	var names []string
	for _, p := range o.Drain() {
		names = append(names, p.name)
	}
	if !slices.Equal(names, []string{"w", "x", "z"}) {
		t.Errorf("names: %v", names)
	}
}

func TestOfFunctionsAndNothing(t *testing.T) {
	calls := 0
	l, n := row(t, func() { calls++ }, nil, func() { calls += 10 })
	answers(t, "Unlink of the nil one", l.Unlink(n[1]), api.OK)
	for _, f := range l.Drain() {
		f()
	}
	if calls != 11 {
		t.Errorf("calls: %d", calls)
	}
	// Values without size: their nodes are told apart all the same.
	e, m := row(t, struct{}{}, struct{}{})
	answers(t, "Unlink", e.Unlink(m[0]), api.OK)
	holds(t, e, m[1])
}

// P5.4

// rows is what lists must be: for each one the numbers of the nodes that it has, in order.
type rows [][]int

// where is the list that a node is in, -1 of none.
func (r rows) where(node int) int {
	return slices.IndexFunc(r, func(l []int) bool { return slices.Contains(l, node) })
}

// out takes a node out of whatever list it is in.
func (r rows) out(at, node int) {
	r[at] = slices.DeleteFunc(r[at], func(n int) bool { return n == node })
}

// bench is lists and nodes that have been through the same calls as rows have.
type bench struct {
	t     *testing.T
	lists []*list.List[int]
	nodes []*list.Node[int]
	want  rows
}

func newBench(t *testing.T, lists, nodes int) *bench {
	b := &bench{t: t, want: make(rows, lists)}
	for range lists {
		b.lists = append(b.lists, list.New[int]())
	}
	for i := range nodes {
		b.nodes = append(b.nodes, &list.Node[int]{Value: i})
	}
	return b
}

func (b *bench) push(at int) {
	n := b.lists[at].Push(len(b.nodes))
	b.want[at] = append(b.want[at], len(b.nodes))
	b.nodes = append(b.nodes, n)
}

func (b *bench) put(at, node int) {
	want := api.ErrState
	if b.want.where(node) < 0 {
		want = api.OK
		b.want[at] = append(b.want[at], node)
	}
	answers(b.t, "Put", b.lists[at].Put(b.nodes[node]), want)
}

func (b *bench) unlink(at, node int) {
	want := api.ErrNone
	if b.want.where(node) == at {
		want = api.OK
		b.want.out(at, node)
	}
	answers(b.t, "Unlink", b.lists[at].Unlink(b.nodes[node]), want)
}

func (b *bench) splice(to, from int) {
	want := api.ErrInvalid
	if to != from {
		want = api.OK
		b.want[to] = append(b.want[to], b.want[from]...)
		b.want[from] = nil
	}
	answers(b.t, "Splice", b.lists[to].Splice(b.lists[from]), want)
}

func (b *bench) drain(at int) {
	if got := b.lists[at].Drain(); !slices.Equal(got, b.want[at]) {
		b.t.Errorf("Drain: %v, want %v", got, b.want[at])
	}
	b.want[at] = nil
}

// check holds all that the lists tell against the rows.
func (b *bench) check() {
	b.t.Helper()
	for i, l := range b.lists {
		var nodes []*list.Node[int]
		for _, n := range b.want[i] {
			nodes = append(nodes, b.nodes[n])
		}
		holds(b.t, l, nodes...)
		for n, x := range b.nodes {
			if x.Value != n {
				b.t.Errorf("node %d: the Value %d", n, x.Value)
			}
			if l.Has(x) != (b.want.where(n) == i) {
				b.t.Errorf("list %d: Has of node %d: %t", i, n, l.Has(x))
			}
		}
	}
}

// call makes one of a bench's calls, but Push, by a number: each of them has some.
func (b *bench) call(k int) {
	lists, nodes := len(b.lists), len(b.nodes)
	at := k % lists
	k = k / lists % (2*nodes + lists + 1)
	switch {
	case k < nodes:
		b.put(at, k)
	case k < 2*nodes:
		b.unlink(at, k-nodes)
	case k < 2*nodes+lists:
		b.splice(at, k-2*nodes)
	default:
		b.drain(at)
	}
}

func TestEveryShortRowOfCalls(t *testing.T) {
	// Two lists and three nodes have 18 calls: every row of four of these, behind either of two beginnings.
	const calls = 18
	for number := range 2 * calls * calls * calls * calls {
		b := newBench(t, 2, 3)
		b.put(0, 0)
		b.put(0, 1)
		b.put(number%2, 2)
		rest := number / 2
		for range 4 {
			b.call(rest % calls)
			rest /= calls
		}
		b.check()
		if t.Failed() {
			t.Fatalf("row %d", number)
		}
	}
}

func TestLongRowsOfCalls(t *testing.T) {
	for seed := range 8 {
		b := newBench(t, 3, 4)
		x := uint64(seed)
		for i := range 2000 {
			x = x*6364136223846793005 + 1442695040888963407
			k := int(x >> 33)
			if k%4 == 0 && len(b.nodes) < 24 {
				b.push(k / 4 % 3)
			} else {
				b.call(k / 4)
			}
			b.check()
			if t.Failed() {
				t.Fatalf("seed %d, call %d", seed, i)
			}
		}
	}
}

func TestPutIsDrainedButWhatWasUnlinked(t *testing.T) {
	l, _ := row[int](t)
	var nodes []*list.Node[int]
	for i := range 300 {
		nodes = append(nodes, l.Push(i))
	}
	var want []int
	for i, n := range nodes {
		if i%3 == 0 || i > 280 {
			answers(t, "Unlink", l.Unlink(n), api.OK)
		} else {
			want = append(want, i)
		}
	}
	drains(t, l, want...)
	lacks(t, l, nodes...)
}

func TestDrainedNodesArePutAgain(t *testing.T) {
	l, n := row(t, 1, 2, 3)
	o, m := row(t, 4)
	answers(t, "Splice", l.Splice(o), api.OK)
	drains(t, l, 1, 2, 3, 4)
	for i := range n {
		answers(t, "Put", o.Put(n[len(n)-1-i]), api.OK)
	}
	answers(t, "Put", l.Put(m[0]), api.OK)
	holds(t, o, n[2], n[1], n[0])
	holds(t, l, m[0])
	answers(t, "Unlink", o.Unlink(n[1]), api.OK)
	drains(t, o, 3, 1)
	drains(t, l, 4)
}

func TestLongList(t *testing.T) {
	const many = 200000
	l, _ := row[int](t)
	var nodes []*list.Node[int]
	for i := range many {
		nodes = append(nodes, l.Push(i))
	}
	// One step each: a search for the node would not end in time.
	for i := many - 1; i >= 0; i-- {
		if i%2 == 1 && (!l.Has(nodes[i]) || l.Unlink(nodes[i]) != api.OK) {
			t.Fatalf("Unlink of %d", i)
		}
	}
	if l.Len() != many/2 {
		t.Errorf("Len: %d", l.Len())
	}
	for i, v := range l.Drain() {
		if v != 2*i {
			t.Fatalf("the value at %d: %d", i, v)
		}
	}
}
