package slab_test

import (
	"math"
	"testing"

	"verge/api"
	"verge/slab"
	"verge/word"
)

// asked is a request, and how far it must be.
type asked struct {
	r      *slab.Request
	period uint64
	stage  int // 0: looks at the count; 1: makes it one more; 2: looks at slots
	seen   int
	slot   int
	status slab.Status
	id     uint64
}

// bench is a slab, and what must be in it behind the same calls.
type bench struct {
	t        *testing.T
	s        *slab.Slab
	n        int
	count    int
	words    []word.Word
	given    []uint64
	periods  []uint64
	requests []*asked
	ids      map[uint64]bool
}

func newBench(t *testing.T, n int) *bench {
	t.Helper()
	return &bench{
		t: t, s: made(t, n), n: n,
		words: make([]word.Word, n), given: make([]uint64, n), periods: make([]uint64, n),
		ids: map[uint64]bool{},
	}
}

// begin is one more request.
func (b *bench) begin(period uint64) *asked {
	b.t.Helper()
	r := b.s.Begin(period)
	if r == nil {
		b.t.Fatal("Begin: nil")
	}
	a := &asked{r: r, period: period}
	b.requests = append(b.requests, a)
	return a
}

// step makes a request's next step, here and there.
func (b *bench) step(a *asked) slab.Status {
	b.t.Helper()
	if a.status == slab.Working {
		b.expect(a)
	}
	got := a.r.Step()
	if got != a.status {
		b.t.Fatalf("Step: %d, want %d", got, a.status)
	}
	return got
}

// expect lets a request that works make its next step in the model.
func (b *bench) expect(a *asked) {
	switch a.stage {
	case 0:
		a.seen, a.stage = b.count, 1
		if b.count == b.n {
			a.status = slab.Full
		}
	case 1:
		if b.count == a.seen {
			b.count++
			a.stage = 2
		} else {
			a.stage = 0
		}
	case 2:
		next, e := word.Next(b.words[a.slot], word.Alloc, a.period != 0)
		if e != api.OK {
			a.slot++
			if a.slot == b.n {
				a.slot = 0
			}
			return
		}
		b.words[a.slot] = next
		b.given[a.slot]++
		b.periods[a.slot] = a.period
		a.id = b.given[a.slot]*64 + uint64(a.slot)
		a.status = slab.Held
		if b.ids[a.id] {
			b.t.Errorf("%d is given twice", a.id)
		}
		b.ids[a.id] = true
	}
}

// try asks for an event, here and there.
func (b *bench) try(slot int, old word.Word, event int) api.Errno {
	b.t.Helper()
	w, want := word.Word(0), api.ErrRange
	if slot >= 0 && slot < b.n {
		var next word.Word
		next, want = word.Next(old, event, b.periods[slot] != 0)
		if want == api.OK && b.words[slot] != old {
			want = api.ErrBusy
		}
		if want == api.OK {
			b.words[slot] = next
		}
		w = b.words[slot]
	}
	if got, e := b.s.Try(slot, old, event); got != w || e != want {
		b.t.Fatalf("Try(%d, %#x, %d): %#x, %d, want %#x, %d", slot, old, event, got, e, w, want)
	}
	return want
}

// drop makes the count one less, here and there.
func (b *bench) drop() {
	b.t.Helper()
	want := api.ErrNone
	if b.count > 0 {
		b.count--
		want = api.OK
	}
	if e := b.s.Drop(); e != want {
		b.t.Fatalf("Drop: %d, want %d", e, want)
	}
}

// check asks the slab and its requests for all that they tell.
func (b *bench) check() {
	b.t.Helper()
	if got := b.s.Count(); got != b.count {
		b.t.Fatalf("Count: %d, want %d", got, b.count)
	}
	for _, slot := range []int{math.MinInt, -64, -1, b.n, b.n + 1, 64, math.MaxInt} {
		if w, e := b.s.Word(slot); w != 0 || e != api.ErrRange || b.s.Period(slot) != 0 {
			b.t.Fatalf("Word(%d): %#x, %d; Period: %d", slot, w, e, b.s.Period(slot))
		}
	}
	for slot := range b.n {
		if w, e := b.s.Word(slot); w != b.words[slot] || e != api.OK {
			b.t.Fatalf("Word(%d): %#x, %d, want %#x", slot, w, e, b.words[slot])
		}
		if p := b.s.Period(slot); p != b.periods[slot] {
			b.t.Fatalf("Period(%d): %d, want %d", slot, p, b.periods[slot])
		}
	}
	for _, a := range b.requests {
		want := api.ErrState
		if a.status == slab.Held {
			want = api.OK
		}
		if id, e := a.r.Id(); id != a.id || e != want {
			b.t.Fatalf("Id: %d, %d, want %d, %d", id, e, a.id, want)
		}
	}
	b.checkNumbers()
}

// checkNumbers asks for numbers that were given, that were not, and that could never be.
func (b *bench) checkNumbers() {
	b.t.Helper()
	most := uint64(0)
	for _, g := range b.given {
		most = max(most, g)
	}
	for times := uint64(0); times <= most+2; times++ {
		for slot := range 64 {
			if slot > b.n+1 && slot < 63 {
				continue
			}
			given := uint64(0)
			if slot < b.n {
				given = b.given[slot]
			}
			b.checkNumber(times*64+uint64(slot), slot, times >= 1 && times <= given, times >= 1 && times == given)
		}
	}
	for _, id := range []uint64{math.MaxUint64, math.MaxUint64 - 63, 1 << 63, 1<<63 + 64, 1 << 32, math.MaxInt64} {
		b.checkNumber(id, 0, false, false)
	}
}

func (b *bench) checkNumber(id uint64, slot int, given, mine bool) {
	b.t.Helper()
	want := api.OK
	if !given {
		slot, want = 0, api.ErrInvalid
	}
	if got, e := b.s.Slot(id); got != slot || e != want {
		b.t.Fatalf("Slot(%d): %d, %d, want %d, %d", id, got, e, slot, want)
	}
	if got := b.s.Mine(id); got != mine {
		b.t.Fatalf("Mine(%d): %t, want %t", id, got, mine)
	}
}

// busy is how many records aren't free.
func (b *bench) busy() int {
	n := 0
	for slot := range b.n {
		if w, _ := b.s.Word(slot); w.State() != api.Free {
			n++
		}
	}
	return n
}

// free lets a record become free by the events that lead there from where it is, and drops it.
func (b *bench) free(slot int) {
	b.t.Helper()
	for b.words[slot].State() != api.Free {
		event := word.Release
		switch b.words[slot].State() {
		case api.Pending, api.Claimed:
			event = word.Finish
		case api.Queued, api.InWheel:
			event = word.Cancel
		}
		if e := b.try(slot, b.words[slot], event); e != api.OK {
			b.t.Fatalf("slot %d doesn't become free: %d", slot, e)
		}
	}
	b.drop()
}

// dice is a row of numbers that is the same one in every run.
type dice uint64

func (d *dice) below(n int) int {
	*d = *d*6364136223846793005 + 1442695040888963407
	return int(uint64(*d) >> 33 % uint64(n))
}
