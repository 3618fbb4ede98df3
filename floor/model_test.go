package floor_test

import (
	"testing"

	"verge/api"
	"verge/floor"
)

// bench is a floor, and what must be so behind the same calls.
type bench struct {
	t            *testing.T
	f            *floor.Floor
	config       api.Config
	parts        []any
	inside, busy int
	closed       bool
	now          uint64
	trace        []api.Event
	// times is how often each slot was given, taken which of them are.
	times []uint64
	taken []bool
}

func newBench(t *testing.T, c api.Config) *bench {
	t.Helper()
	f := made(t, c)
	return &bench{t: t, f: f, config: c, parts: parts(f), times: make([]uint64, c.Cap), taken: make([]bool, c.Cap)}
}

// down makes one less of a count, here and there.
func (b *bench) down(n *int, got api.Errno) {
	b.t.Helper()
	want := api.ErrNone
	if *n > 0 {
		*n--
		want = api.OK
	}
	is(b.t, got, want)
}

// note notes an event that differs from all others, here and there.
func (b *bench) note() {
	e := whole(len(b.trace))
	b.f.Note(e)
	b.trace = append(b.trace, e)
}

// give gives the first slot that isn't taken, here and there, if there is one.
func (b *bench) give() {
	b.t.Helper()
	for slot, taken := range b.taken {
		if !taken {
			b.times[slot]++
			b.taken[slot] = true
			gives(b.t, b.f, b.times[slot]*64+uint64(slot))
			return
		}
	}
}

// free frees a slot, here and there, if it is taken.
func (b *bench) free(slot int) {
	b.t.Helper()
	if b.taken[slot] {
		frees(b.t, b.f, slot)
		b.taken[slot] = false
	}
}

// calls is how many calls there are; the last one is Shut.
const calls = 10

// call makes one of them, by its number, here and there.
func (b *bench) call(number int) {
	b.t.Helper()
	switch number {
	case 0:
		b.f.Enter()
		b.inside++
	case 1:
		b.down(&b.inside, b.f.Leave())
	case 2:
		is(b.t, b.f.Work(true), api.OK)
		b.busy++
	case 3:
		b.down(&b.busy, b.f.Work(false))
	case 4:
		b.now++
		turns(b.t, b.f, b.now)
	case 5:
		b.note()
	case 6:
		b.give()
	case 7, 8:
		b.free((number - 7) % b.config.Cap)
	default:
		shuts(b.t, b.f, !b.closed)
		b.closed = true
	}
}

// check asks the floor for all that it tells, twice: to ask changes nothing.
func (b *bench) check() {
	b.t.Helper()
	for range 2 {
		if c := b.f.Config(); c != b.config {
			b.t.Errorf("Config: %v, want %v", c, b.config)
		}
		for i, p := range parts(b.f) {
			if p != b.parts[i] {
				b.t.Errorf("part %d is another one", i)
			}
		}
		counts(b.t, b.f, b.inside, b.busy)
		closed(b.t, b.f, b.closed)
		isNow(b.t, b.f, b.now)
		traced(b.t, b.f, b.trace...)
		b.checkNumbers()
	}
	if b.t.Failed() {
		b.t.FailNow()
	}
}

// checkNumbers asks for the number of each slot, and of two that there aren't.
func (b *bench) checkNumbers() {
	b.t.Helper()
	for slot, times := range b.times {
		if times == 0 {
			unnumbered(b.t, b.f, slot, api.ErrNone)
		} else {
			numbered(b.t, b.f, slot, times*64+uint64(slot))
		}
	}
	unnumbered(b.t, b.f, -1, api.ErrRange)
	unnumbered(b.t, b.f, b.config.Cap, api.ErrRange)
}

// dice is a row of numbers that is the same one in every run.
type dice uint64

func (d *dice) below(n int) int {
	*d = *d*6364136223846793005 + 1442695040888963407
	return int(uint64(*d) >> 33 % uint64(n))
}

// TestEveryShortRow goes through all rows of four calls of a little floor.
func TestEveryShortRow(t *testing.T) {
	const length = 4
	rows := 1
	for range length {
		rows *= calls
	}
	for row := range rows {
		b := newBench(t, api.Config{Shards: 1 + row%2, Cap: 2, Ring: 1, Room: 1, Workers: 1, Clients: 1})
		for range length {
			b.call(row % calls)
			b.check()
			row /= calls
		}
	}
}

func TestLongRows(t *testing.T) {
	for seed, c := range []api.Config{least(), other(), greatest(), {Shards: 2, Cap: 3, Ring: 5, Room: 2, Workers: 2, Clients: 2}} {
		d := dice(seed)
		b := newBench(t, c)
		for range 600 {
			b.call(d.below(calls))
			b.check()
		}
		if b.now < 20 || len(b.trace) < 20 || b.times[0] < 10 {
			t.Errorf("row %d: the time %d, %d events, %d numbers of slot 0: it is too tame", seed, b.now, len(b.trace), b.times[0])
		}
	}
}
