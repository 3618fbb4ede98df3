package level_test

import (
	"slices"
	"testing"

	"verge/api"
	"verge/level"
	"verge/list"
)

// bench is levels and nodes, and what must be in these levels behind the same calls.
type bench struct {
	t      *testing.T
	levels []*level.Level[int]
	nodes  []*list.Node[int]
	want   []rows[int]
}

func newBench(t *testing.T, levels, nodes int) *bench {
	b := &bench{t: t}
	for range levels {
		b.levels = append(b.levels, fresh[int](t))
		b.want = append(b.want, rows[int]{})
	}
	for i := range nodes {
		b.nodes = append(b.nodes, &list.Node[int]{Value: i})
	}
	return b
}

// stands tells whether a node stands anywhere.
func (b *bench) stands(n *list.Node[int]) bool {
	for _, r := range b.want {
		for _, l := range r {
			if slices.Contains(l, n) {
				return true
			}
		}
	}
	return false
}

func (b *bench) put(at, slot int, n *list.Node[int]) {
	want := api.OK
	switch {
	case slot < 0 || slot >= slots:
		want = api.ErrRange
	case n == nil:
		want = api.ErrInvalid
	case b.stands(n):
		want = api.ErrState
	default:
		b.want[at][slot] = append(b.want[at][slot], n)
	}
	answers(b.t, "Put", b.levels[at].Put(slot, n), want)
}

func (b *bench) remove(at, slot int, n *list.Node[int]) {
	want := api.OK
	switch place := slices.Index(b.want[at][slot], n); {
	case slot < 0 || slot >= slots:
		want = api.ErrRange
	case n == nil:
		want = api.ErrInvalid
	case place < 0:
		want = api.ErrNone
	default:
		b.want[at][slot] = slices.Delete(b.want[at][slot], place, place+1)
	}
	answers(b.t, "Remove", b.levels[at].Remove(slot, n), want)
}

func (b *bench) take(at, slot int) {
	if got := b.levels[at].Take(slot); !slices.Equal(got, b.want[at][slot]) {
		b.t.Errorf("Take(%d): %v, want %v", slot, got, b.want[at][slot])
	}
	delete(b.want[at], slot)
}

// call makes one of a bench's calls, by a number: k of as many as calls says.
func (b *bench) call(k int, asked []int) {
	at, k := k%len(b.levels), k/len(b.levels)
	slot, k := asked[k%len(asked)], k/len(asked)
	nodes := append(slices.Clone(b.nodes), nil)
	switch {
	case k < len(nodes):
		b.put(at, slot, nodes[k])
	case k < 2*len(nodes):
		b.remove(at, slot, nodes[k-len(nodes)])
	default:
		b.take(at, slot)
	}
}

// calls is how many there are.
func (b *bench) calls(asked []int) int {
	return len(b.levels) * len(asked) * (2*(len(b.nodes)+1) + 1)
}

// check holds all that the levels tell against what must be in them.
func (b *bench) check() {
	b.t.Helper()
	for i, l := range b.levels {
		holds(b.t, l, b.want[i])
	}
	for _, n := range b.nodes {
		if !b.stands(n) {
			free(b.t, n)
		}
	}
}

func TestEveryShortRowOfCalls(t *testing.T) {
	// Both ends and no slot, two nodes and a nil one: every row of four calls, of a level that has a node already.
	asked := []int{0, 63, 64}
	calls := newBench(t, 1, 2).calls(asked)
	for number := range calls * calls * calls * calls {
		b := newBench(t, 1, 2)
		b.put(0, 63, b.nodes[0])
		rest := number
		for range 4 {
			b.call(rest%calls, asked)
			rest /= calls
		}
		b.check()
		if t.Failed() {
			t.Fatalf("row %d", number)
		}
	}
}

func TestLongRowsOfCalls(t *testing.T) {
	asked := slices.Concat(ends, ends, []int{-1, 64, 5})
	for seed := range 6 {
		b := newBench(t, 2, 12)
		calls := b.calls(asked)
		x := uint64(seed)
		for i := range 3000 {
			x = x*6364136223846793005 + 1442695040888963407
			b.call(int(x>>33)%calls, asked)
			b.check()
			if t.Failed() {
				t.Fatalf("seed %d, call %d", seed, i)
			}
		}
	}
}
