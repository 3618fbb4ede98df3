package pipe_test

import (
	"slices"
	"testing"

	"verge/api"
	"verge/pipe"
)

// bench is a pipe, and what must be so behind the same calls: two plain lists.
type bench struct {
	t              *testing.T
	p              *pipe.Pipe[int]
	room           int
	channel, spill []int
	most           int
	shut           bool
	// next is the thing that is put next: each one comes once.
	next int
	// taken is how many were taken: since they come in their order, it is the next one to be taken, too.
	taken int
}

func newBench(t *testing.T, room int) *bench {
	t.Helper()
	// Things begin at 1: no thing is a zero one.
	return &bench{t: t, p: made[int](t, room), room: room, next: 1, taken: 1}
}

// put puts the next thing in, here and there.
func (b *bench) put() {
	b.t.Helper()
	v := b.next
	spilled, want := false, api.OK
	switch {
	case b.shut:
		want = api.ErrClosed
	case len(b.spill) == 0 && len(b.channel) < b.room:
		b.channel = append(b.channel, v)
		b.next++
	default:
		b.spill, spilled = append(b.spill, v), true
		b.most = max(b.most, len(b.spill))
		b.next++
	}
	if s, e := b.p.Put(v); s != spilled || e != want {
		b.t.Fatalf("Put(%d): %t, %d, want %t, %d", v, s, e, spilled, want)
	}
}

// take takes the first thing, here and there.
func (b *bench) take() {
	b.t.Helper()
	first, want := 0, api.ErrNone
	if len(b.channel) > 0 {
		first, want = b.channel[0], api.OK
		b.channel = b.channel[1:]
		if len(b.spill) > 0 {
			b.channel, b.spill = append(b.channel, b.spill[0]), b.spill[1:]
		}
	}
	v, e := b.p.Take()
	if v != first || e != want {
		b.t.Fatalf("Take: %d, %d, want %d, %d", v, e, first, want)
	}
	if e != api.OK {
		return
	}
	if v != b.taken {
		b.t.Fatalf("Take: %d, want %d, the next one that was put", v, b.taken)
	}
	b.taken++
}

// end shuts the pipe, here and there.
func (b *bench) end() {
	b.t.Helper()
	want := api.OK
	if b.shut {
		want = api.ErrClosed
	}
	b.shut = true
	if e := b.p.Shut(); e != want {
		b.t.Fatalf("Shut: %d, want %d", e, want)
	}
}

// check asks the pipe for all that it tells, twice: to ask changes nothing.
func (b *bench) check() {
	b.t.Helper()
	length := len(b.channel) + len(b.spill)
	for range 2 {
		counts(b.t, b.p, length, len(b.spill), b.most)
		closed(b.t, b.p, b.shut && length == 0)
		if got := b.p.All(); !slices.Equal(got, slices.Concat(b.channel, b.spill)) {
			b.t.Fatalf("All: %v, want %v, %v", got, b.channel, b.spill)
		}
	}
	if b.p.Spilled() > 0 && b.p.Len()-b.p.Spilled() != b.room {
		b.t.Fatalf("%d are spilled, though the channel has %d of %d", b.p.Spilled(), b.p.Len()-b.p.Spilled(), b.room)
	}
	if b.t.Failed() {
		b.t.FailNow()
	}
}

// dice is a row of numbers that is the same one in every run.
type dice uint64

func (d *dice) below(n int) int {
	*d = *d*6364136223846793005 + 1442695040888963407
	return int(uint64(*d) >> 33 % uint64(n))
}

// P11.3

// TestEveryShortRowOfCalls: each row of nine puts, takes and shuts, of each little room.
func TestEveryShortRowOfCalls(t *testing.T) {
	const long, kinds = 9, 3
	rows := 1
	for range long {
		rows *= kinds
	}
	for room := 1; room <= 3; room++ {
		for row := range rows {
			b := newBench(t, room)
			calls := []func(){b.put, b.take, b.end}
			rest := row
			for range long {
				calls[rest%kinds]()
				b.check()
				rest /= kinds
			}
		}
	}
}

// TestLongRowsOfCalls: rows in which now puts, now takes come more often, so that the spill grows and goes again and again.
func TestLongRowsOfCalls(t *testing.T) {
	for _, room := range []int{1, 2, 3, 5, 8, 15, 16} {
		d := dice(room)
		b := newBench(t, room)
		for call := range 3000 {
			// By turns, of 150 calls each, four in five are puts, then takes.
			bias := 1 + 3*(call/150%2)
			if d.below(5) < bias {
				b.take()
			} else {
				b.put()
			}
			b.check()
		}
		b.end()
		for b.p.Len() > 0 {
			b.put()
			b.take()
			b.check()
		}
		b.take()
		b.end()
		b.check()
		if b.taken != b.next {
			t.Errorf("room %d: %d were taken of %d", room, b.taken-1, b.next-1)
		}
		if b.most < 10 {
			t.Errorf("room %d: at most %d were spilled: the row is too tame", room, b.most)
		}
	}
}

// TestGreatSpill: a spill without bounds, each thing of which comes out in its order.
func TestGreatSpill(t *testing.T) {
	const many = 200_000
	p := made[int](t, api.MaxRoom)
	for i := range many {
		puts(t, p, i, i >= api.MaxRoom)
	}
	counts(t, p, many, many-api.MaxRoom, many-api.MaxRoom)
	all := p.All()
	if len(all) != many {
		t.Fatalf("All: %d things, want %d", len(all), many)
	}
	for i, v := range all {
		if v != i {
			t.Fatalf("All: %d at %d", v, i)
		}
		takes(t, p, i)
	}
	takesNone(t, p)
	counts(t, p, 0, 0, many-api.MaxRoom)
}
