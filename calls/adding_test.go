package calls_test

import (
	"math"
	"testing"

	"verge/api"
	"verge/ring"
	"verge/word"
)

// Schedule and Periodic, line by line.

// goesToRecord goes the way of a Schedule or a Periodic up to its request: the lines 1 to 3.
func (w *work) goesToRecord() {
	w.t.Helper()
	w.goes(nothing, enters, nothing)
}

// takesRecord goes on to the record of a slot, if those of all slots below aren't free, and nobody steps between: line 4.
func (w *work) takesRecord(id, gen, period uint64) {
	w.t.Helper()
	w.goes(nothing, counts(1))
	for range id % 64 {
		w.goes(nothing)
	}
	w.goes(gives(id, gen, period))
}

// takesPlace goes on to a place in a shard's ring, if nobody steps between.
func (w *work) takesPlace(shard int) {
	w.t.Helper()
	w.goes(nothing, nothing, places(shard))
}

// submits is line 6.
func (w *work) submits(id, gen, period uint64) {
	w.t.Helper()
	w.goes(all(
		becomes(int(id%64), api.Queued, gen),
		notes(api.Event{Kind: api.EvAdd, Id: id, Gen: gen, Deadline: w.call.Deadline, Period: period}),
	))
}

func TestScheduleAlone(t *testing.T) {
	for _, c := range []api.Call{
		{Kind: api.Schedule},
		{Kind: api.Schedule, Deadline: 9},
		{Kind: api.Schedule, Deadline: math.MaxUint64},
		// What plays no part of a Schedule is noted of the call alone.
		{Kind: api.Schedule, Id: 77, Deadline: 9, Period: 5},
		{Kind: api.Schedule, Id: math.MaxUint64, Deadline: math.MaxUint64, Period: math.MaxUint64},
	} {
		f := made(t, small(1, 1))
		w := begins(t, f, c)
		w.goesToRecord()
		w.takesRecord(64, 1, 0)
		w.takesPlace(0)
		w.submits(64, 1, 0)
		w.goes(fills(0), leaves)
		w.ends(api.Answer{Ok: true, Id: 64, Gen: 1})
		pops(t, f, 0, api.Task{Id: 64, Gen: 1, Deadline: c.Deadline})
	}
}

func TestPeriodicAlone(t *testing.T) {
	for _, c := range []api.Call{
		{Kind: api.Periodic, Period: 1},
		{Kind: api.Periodic, Deadline: 9, Period: 5},
		{Kind: api.Periodic, Id: 77, Deadline: 9, Period: 5},
		// Deadline and Period lead just to the end of time.
		{Kind: api.Periodic, Deadline: 9, Period: math.MaxUint64 - 9},
		{Kind: api.Periodic, Deadline: math.MaxUint64 - 1, Period: 1},
		{Kind: api.Periodic, Deadline: 1 << 63, Period: 1<<63 - 1},
		{Kind: api.Periodic, Period: math.MaxUint64},
	} {
		f := made(t, small(1, 1))
		w := begins(t, f, c)
		w.goesToRecord()
		w.takesRecord(64, 1, c.Period)
		w.takesPlace(0)
		w.submits(64, 1, c.Period)
		w.goes(fills(0), leaves)
		w.ends(api.Answer{Ok: true, Id: 64, Gen: 1})
		pops(t, f, 0, api.Task{Id: 64, Gen: 1, Deadline: c.Deadline, Period: c.Period})
	}
}

func TestPeriodicThatMayNotBe(t *testing.T) {
	for _, c := range []api.Call{
		{Kind: api.Periodic},
		{Kind: api.Periodic, Id: 64, Deadline: 9},
		{Kind: api.Periodic, Deadline: math.MaxUint64},
		// Deadline and Period lead just beyond the end of time, and farther.
		{Kind: api.Periodic, Deadline: 9, Period: math.MaxUint64 - 8},
		{Kind: api.Periodic, Deadline: 1, Period: math.MaxUint64},
		{Kind: api.Periodic, Deadline: math.MaxUint64, Period: 1},
		{Kind: api.Periodic, Deadline: 1 << 63, Period: 1 << 63},
		{Kind: api.Periodic, Deadline: math.MaxUint64, Period: math.MaxUint64},
	} {
		for _, closed := range []bool{false, true} {
			f := made(t, small(1, 1))
			if closed {
				// It is refused ahead of the floor's being closed.
				f.Shut()
			}
			w := begins(t, f, c)
			w.goes(refuses(api.ErrInvalid))
			w.ends(api.Answer{Err: api.ErrInvalid})
		}
	}
}

// Slots above the first one, in several shards: each has its own number, and its home's ring.
func TestAddingInEachShard(t *testing.T) {
	for shards := 1; shards <= 4; shards++ {
		f := made(t, api.Config{Shards: shards, Cap: 9, Ring: 9, Room: 1, Workers: 1, Clients: 1})
		for slot := range 9 {
			c := api.Call{Kind: api.Schedule, Deadline: uint64(100 + slot)}
			period := uint64(0)
			if slot%2 == 1 {
				c.Kind, c.Period, period = api.Periodic, 3, 3
			}
			id, home := uint64(64+slot), slot%shards
			w := beginsAs(t, f, slot, slot+1, c)
			w.goesToRecord()
			w.takesRecord(id, 1, period)
			w.takesPlace(home)
			w.submits(id, 1, period)
			w.goes(fills(home), leaves)
			w.ends(api.Answer{Ok: true, Id: id, Gen: 1})
		}
		for slot := range 9 {
			period := uint64(slot % 2 * 3)
			pops(t, f, slot%shards, api.Task{Id: uint64(64 + slot), Slot: slot, Gen: 1, Deadline: uint64(100 + slot), Period: period})
		}
	}
}

// A slot that is given again has another number, and a later generation.
func TestAddingGivesASlotAgain(t *testing.T) {
	f := made(t, small(1, 2))
	for times := uint64(1); times < 6; times++ {
		id := times * 64
		w := begins(t, f, api.Call{Kind: api.Schedule, Deadline: times})
		w.goesToRecord()
		w.takesRecord(id, times, 0)
		w.takesPlace(0)
		w.submits(id, times, 0)
		w.goes(fills(0), leaves)
		w.ends(api.Answer{Ok: true, Id: id, Gen: times})
		pops(t, f, 0, api.Task{Id: id, Gen: times, Deadline: times})
		if a := run(t, f, api.Call{Kind: api.Cancel, Id: id}); !a.Ok {
			t.Fatal(a)
		}
	}
}

// refusedAsClosed goes the way of a work that came too late, from where it is asked on.
func (w *work) refusedAsClosed() {
	w.t.Helper()
	w.goes(refuses(api.ErrClosed), leaves)
	w.ends(api.Answer{Err: api.ErrClosed})
}

func TestAddingOnAClosedFloor(t *testing.T) {
	for _, c := range []api.Call{{Kind: api.Schedule, Deadline: 5}, {Kind: api.Periodic, Deadline: 5, Period: 2}} {
		f := made(t, small(1, 1))
		f.Shut()
		w := begins(t, f, c)
		w.goes(nothing, enters)
		w.refusedAsClosed()
		// Closed between its steps, ahead of the one that asks.
		for ahead := range 2 {
			f := made(t, small(1, 1))
			w := begins(t, f, c)
			l := []change{nothing, enters}
			w.goes(l[:ahead+1]...)
			f.Shut()
			w.goes(l[ahead+1:]...)
			w.refusedAsClosed()
		}
	}
}

// Behind the step that asks it is as if the floor weren't closed.
func TestAddingThatIsInsideWhenItIsClosed(t *testing.T) {
	for ahead := 3; ahead <= 12; ahead++ {
		f := made(t, small(1, 1))
		w := begins(t, f, api.Call{Kind: api.Schedule, Deadline: 5})
		for range ahead {
			w.k.Step()
		}
		f.Shut()
		for w.k.Step() {
		}
		w.isDone(api.Answer{Ok: true, Id: 64, Gen: 1})
		pops(t, f, 0, api.Task{Id: 64, Gen: 1, Deadline: 5})
	}
}

func TestAddingWithNoRecordFree(t *testing.T) {
	for _, c := range []api.Call{{Kind: api.Schedule, Deadline: 5, Period: 9}, {Kind: api.Periodic, Deadline: 5, Period: 2}} {
		for n := 1; n <= 3; n++ {
			f := made(t, small(n, 3))
			for range n {
				adds(t, f, 9, 0)
			}
			w := begins(t, f, c)
			w.goesToRecord()
			w.goes(all(refuses(api.ErrFull)), leaves)
			w.ends(api.Answer{Err: api.ErrFull})
		}
	}
}

func TestAddingWithNoPlace(t *testing.T) {
	for _, c := range []api.Call{{Kind: api.Schedule, Deadline: 5}, {Kind: api.Periodic, Deadline: 5, Period: 2}} {
		f := made(t, small(2, 1))
		stuffs(t, f, 0)
		w := begins(t, f, c)
		w.goesToRecord()
		w.takesRecord(64, 1, c.Period)
		w.goes(nothing, nothing)
		w.goes(all(becomes(0, api.Free, 1), refuses(api.ErrFull)), counts(-1), leaves)
		w.ends(api.Answer{Err: api.ErrFull})
		// The record may be had again; its number was given.
		pops(t, f, 0, api.Task{Slot: -1})
		w = begins(t, f, c)
		w.goesToRecord()
		w.takesRecord(128, 2, c.Period)
		w.takesPlace(0)
		w.submits(128, 2, c.Period)
		w.goes(fills(0), leaves)
		w.ends(api.Answer{Ok: true, Id: 128, Gen: 2})
	}
}

// Only the ring of the slot's home plays a part.
func TestAddingWithNoPlaceInAnotherShard(t *testing.T) {
	f := made(t, api.Config{Shards: 2, Cap: 2, Ring: 1, Room: 1, Workers: 1, Clients: 1})
	stuffs(t, f, 1)
	if a := run(t, f, api.Call{Kind: api.Schedule}); !a.Ok || a.Id != 64 {
		t.Fatal(a)
	}
	w := begins(t, f, api.Call{Kind: api.Schedule, Deadline: 5})
	w.goesToRecord()
	w.takesRecord(65, 1, 0)
	w.goes(nothing, nothing, all(becomes(1, api.Free, 1), refuses(api.ErrFull)), counts(-1), leaves)
	w.ends(api.Answer{Err: api.ErrFull})
}

// Other works between the steps.

// The request begins anew, when another work was ahead of it at the count, and is full, when that was the last record.
func TestAddingWhoseRecordAnotherOneTakes(t *testing.T) {
	f := made(t, small(2, 2))
	w := begins(t, f, api.Call{Kind: api.Schedule, Deadline: 5})
	w.goesToRecord()
	w.goes(nothing)
	adds(t, f, 9, 0)
	w.goes(nothing)
	w.takesRecord(65, 1, 0)
	w.takesPlace(0)
	w.submits(65, 1, 0)
	w.goes(fills(0), leaves)
	w.ends(api.Answer{Ok: true, Id: 65, Gen: 1})

	f = made(t, small(1, 2))
	w = begins(t, f, api.Call{Kind: api.Schedule, Deadline: 5})
	w.goesToRecord()
	w.goes(nothing)
	adds(t, f, 9, 0)
	w.goes(nothing, refuses(api.ErrFull), leaves)
	w.ends(api.Answer{Err: api.ErrFull})
}

// The request goes round: the slot that it looked at first is the one that comes free.
func TestAddingGoesRoundTheSlots(t *testing.T) {
	f := made(t, small(2, 2))
	adds(t, f, 9, 0)
	w := begins(t, f, api.Call{Kind: api.Periodic, Deadline: 5, Period: 4})
	w.goesToRecord()
	w.goes(nothing, counts(1), nothing)
	// Ahead of its next step the slot 0 comes free, and the slot 1 is another one's.
	goOn(t, f, 0, word.Cancel, word.Release)
	goOn(t, f, 1, word.Alloc)
	w.goes(nothing, func(_ *work, v *view) {
		v.words[0], v.numbers[0], v.periods[0] = packed(api.Pending, 2, false), 128, 4
	})
	w.takesPlace(0)
	w.submits(128, 2, 4)
	w.goes(fills(0), leaves)
	w.ends(api.Answer{Ok: true, Id: 128, Gen: 2})
}

// The ticket begins anew, when another work takes the place, and is full, when that was the last one.
func TestAddingWhosePlaceAnotherOneTakes(t *testing.T) {
	f := made(t, small(3, 2))
	w := begins(t, f, api.Call{Kind: api.Schedule, Deadline: 5})
	w.goesToRecord()
	w.takesRecord(64, 1, 0)
	w.goes(nothing, nothing)
	if a := run(t, f, api.Call{Kind: api.Schedule, Deadline: 6}); a.Id != 65 {
		t.Fatal(a)
	}
	w.goes(nothing)
	w.takesPlace(0)
	w.submits(64, 1, 0)
	// The other one's task stands ahead.
	w.goes(nothing, leaves)
	w.ends(api.Answer{Ok: true, Id: 64, Gen: 1})
	pops(t, f, 0, api.Task{Id: 65, Slot: 1, Gen: 1, Deadline: 6})
	pops(t, f, 0, api.Task{Id: 64, Gen: 1, Deadline: 5})

	f = made(t, small(2, 1))
	w = begins(t, f, api.Call{Kind: api.Schedule, Deadline: 5})
	w.goesToRecord()
	w.takesRecord(64, 1, 0)
	w.goes(nothing, nothing)
	if a := run(t, f, api.Call{Kind: api.Schedule, Deadline: 6}); a.Id != 65 {
		t.Fatal(a)
	}
	w.goes(nothing, nothing, nothing)
	w.goes(all(becomes(0, api.Free, 1), refuses(api.ErrFull)), counts(-1), leaves)
	w.ends(api.Answer{Err: api.ErrFull})
	pops(t, f, 0, api.Task{Id: 65, Slot: 1, Gen: 1, Deadline: 6})
}

// A place that was full when the ticket looked stays so for it, if it is popped behind that.
func TestAddingWhosePlaceComesTooLate(t *testing.T) {
	f := made(t, small(1, 1))
	stuffs(t, f, 0)
	w := begins(t, f, api.Call{Kind: api.Schedule, Deadline: 5})
	w.goesToRecord()
	w.takesRecord(64, 1, 0)
	w.goes(nothing, nothing)
	pops(t, f, 0, api.Task{Slot: -1})
	w.goes(all(becomes(0, api.Free, 1), refuses(api.ErrFull)), counts(-1), leaves)
	w.ends(api.Answer{Err: api.ErrFull})
	if k := f.Shard(0).Begin(); k.Step() != ring.Working || k.Step() != ring.Working || k.Step() != ring.Held {
		t.Error("the place is lost")
	}
}

// The timer is there from line 6 on: it may be cancelled, stopped or reset ahead of the task's being filled, which has
// the generation that was noted.
func TestAddingWhoseTimerChangesAheadOfItsTask(t *testing.T) {
	for kind, want := range map[int]view{
		api.Cancel: {words: []word.Word{packed(api.Free, 1, false)}},
		api.Stop:   {words: []word.Word{packed(api.Queued, 1, true)}},
		api.Reset:  {words: []word.Word{packed(api.Queued, 2, false)}},
	} {
		f := made(t, small(1, 2))
		w := begins(t, f, api.Call{Kind: api.Periodic, Deadline: 5, Period: 2})
		w.goesToRecord()
		w.takesRecord(64, 1, 2)
		w.takesPlace(0)
		w.submits(64, 1, 2)
		if a := run(t, f, api.Call{Kind: kind, Id: 64, Deadline: 8}); !a.Ok {
			t.Fatal(kind, a)
		}
		if is, _ := f.Slab().Word(0); is != want.words[0] {
			t.Fatalf("kind %d: the word %#x", kind, is)
		}
		w.goes(fills(0), leaves)
		w.ends(api.Answer{Ok: true, Id: 64, Gen: 1})
		pops(t, f, 0, api.Task{Id: 64, Gen: 1, Deadline: 5, Period: 2})
		if kind == api.Reset {
			pops(t, f, 0, api.Task{Id: 64, Gen: 2, Deadline: 8, Period: 2})
		}
	}
}

// A number that is guessed ahead of line 6 is of a timer that isn't there.
func TestAddingWhoseTimerIsGuessed(t *testing.T) {
	f := made(t, small(1, 2))
	w := begins(t, f, api.Call{Kind: api.Periodic, Deadline: 5, Period: 2})
	w.goesToRecord()
	w.takesRecord(64, 1, 2)
	for _, c := range []change{nothing, nothing, places(0)} {
		for _, kind := range []int{api.Cancel, api.Stop, api.Reset} {
			if a := run(t, f, api.Call{Kind: kind, Id: 64}); a.Ok || a.Err != api.OK {
				t.Fatal(kind, a)
			}
		}
		w.goes(c)
	}
	w.submits(64, 1, 2)
	w.goes(fills(0), leaves)
	w.ends(api.Answer{Ok: true, Id: 64, Gen: 1})
}

// Where Submit or Finish may not happen, nothing happens to the word; the generation is that of the word as it is.
func TestAddingWhoseWordIsAnotherOnes(t *testing.T) {
	f := made(t, small(1, 1))
	w := begins(t, f, api.Call{Kind: api.Schedule, Deadline: 5})
	w.goesToRecord()
	w.takesRecord(64, 1, 0)
	w.takesPlace(0)
	goOn(t, f, 0, word.Submit, word.Enter, word.Reset)
	w.goes(notes(api.Event{Kind: api.EvAdd, Id: 64, Gen: 2, Deadline: 5}), fills(0), leaves)
	w.ends(api.Answer{Ok: true, Id: 64, Gen: 2})
	pops(t, f, 0, api.Task{Id: 64, Gen: 2, Deadline: 5})

	f = made(t, small(1, 1))
	stuffs(t, f, 0)
	w = begins(t, f, api.Call{Kind: api.Schedule, Deadline: 5})
	w.goesToRecord()
	w.takesRecord(64, 1, 0)
	w.goes(nothing, nothing)
	goOn(t, f, 0, word.Submit)
	w.goes(refuses(api.ErrFull), counts(-1), leaves)
	w.ends(api.Answer{Err: api.ErrFull})
}
