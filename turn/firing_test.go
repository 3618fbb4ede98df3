package turn_test

import (
	"math"
	"testing"

	"verge/api"
	"verge/floor"
	"verge/word"
)

// P17.1: what is due, line by line.

// claims goes the lines g and h, if nobody steps between.
func (w *work) claims(slot int, id, gen, now uint64) {
	w.t.Helper()
	w.goes(nothing, all(becomes(slot, packed(api.Claimed, gen, false)), fires(id, gen, now, now)))
}

// finishes goes the lines l to n, if nothing keeps it from that.
func (w *work) finishes(slot int, gen uint64) {
	w.t.Helper()
	w.goes(becomes(slot, packed(api.Done, gen, false)))
	w.frees(slot, gen)
}

// frees goes the lines m and n.
func (w *work) frees(slot int, gen uint64) {
	w.t.Helper()
	w.goes(becomes(slot, packed(api.Free, gen, false)), drops)
}

// firesOnce goes the lines g to n, of a timer without a period.
func (w *work) firesOnce(slot int, id, gen, now uint64) {
	w.t.Helper()
	w.claims(slot, id, gen, now)
	w.goes(puts(id, gen, now, now), nothing)
	w.finishes(slot, gen)
}

// leavesBehind leaves the shard behind what was due.
func (w *work) leavesBehind() {
	w.t.Helper()
	w.goes(unlocks(0))
	w.succeeds()
}

// due begins a turn in which the timer 64, of that period, is the one that is due, at 1, and goes on to there.
func due(t *testing.T, period uint64) (*floor.Floor, *work) {
	t.Helper()
	f := made(t, small(1, 1, 3))
	if id := adds(t, f, 0, period); id != 64 {
		t.Fatal(id)
	}
	w := takesOver(t, f)
	w.armsNext(false, 0, 64, 1, 1)
	w.goes(advances(0, 1))
	return f, w
}

// Nothing is due as long as the deadline lies ahead; then just that is.
func TestNothingIsDue(t *testing.T) {
	f := made(t, small(1, 1, 1))
	adds(t, f, 5, 0)
	w := takesOver(t, f)
	w.armsNext(false, 0, 64, 1, 5)
	w.leavesShard(5)
	for range 3 {
		takesOver(t, f).leavesShard(5)
	}
	w = takesOver(t, f)
	w.goes(advances(0, 1))
	w.firesOnce(0, 64, 1, 5)
	w.leavesBehind()
	takesOver(t, f).leavesShard()
}

// Many are due in the order in which they were armed, whatever their slots are.
func TestManyAreDue(t *testing.T) {
	for n := 1; n <= 6; n++ {
		f := made(t, small(1, 6, 7))
		for range n {
			adds(t, f, 2, 0)
		}
		// The first one goes behind all others.
		ok(t, f, api.Call{Kind: api.Cancel, Id: 64})
		if id := adds(t, f, 2, 0); id != 128 {
			t.Fatal(id)
		}
		tick(t, f)
		w := takesOver(t, f)
		w.goes(advances(0, n))
		for i := 1; i < n; i++ {
			w.firesOnce(i, uint64(64+i), 1, 2)
		}
		w.firesOnce(0, 128, 2, 2)
		w.leavesBehind()
		if f.Slab().Count() != 0 {
			t.Error(f.Slab().Count())
		}
	}
}

// What waited and what stood in the wheel are due together, in the order in which they were armed.
func TestDueFromRingAndWheel(t *testing.T) {
	f := made(t, small(1, 3, 3))
	adds(t, f, 2, 0)
	tick(t, f)
	adds(t, f, 2, 0)
	adds(t, f, 0, 0)
	w := takesOver(t, f)
	w.armsNext(true, 1, 65, 1, 2)
	w.armsNext(false, 2, 66, 1, 2)
	w.goes(advances(0, 3))
	for slot := range 3 {
		w.firesOnce(slot, uint64(64+slot), 1, 2)
	}
	w.leavesBehind()
}

// away are the ways by which a timer of the slot 0 that is due, and has a period, isn't any more when it is looked at.
func away(t *testing.T) map[string]func(f *floor.Floor) {
	happen := func(events ...int) func(f *floor.Floor) {
		return func(f *floor.Floor) { goOn(t, f, 0, events...) }
	}
	return map[string]func(f *floor.Floor){
		"reset":            happen(word.Reset),
		"reset, and armed": happen(word.Reset, word.Enter),
		"claimed":          happen(word.Claim),
		"done":             happen(word.Claim, word.Finish),
		"armed anew":       happen(word.Claim, word.Rearm),
		"cancelled":        happen(word.Cancel),
		"free":             happen(word.Cancel, word.Release),
		"another one's":    happen(word.Cancel, word.Release, word.Alloc, word.Submit, word.Enter),
		"given again": func(f *floor.Floor) {
			ok(t, f, api.Call{Kind: api.Cancel, Id: 64})
			adds(t, f, 30, 3)
		},
		"given again, and armed": func(f *floor.Floor) {
			ok(t, f, api.Call{Kind: api.Cancel, Id: 64})
			adds(t, f, 30, 3)
			goOn(t, f, 0, word.Enter)
		},
	}
}

// One that is due and isn't in the wheel any more by that task takes one step, and changes nothing.
func TestDueAndAway(t *testing.T) {
	for _, goes := range away(t) {
		f, w := due(t, 5)
		goes(f)
		w.goes(nothing)
		w.leavesBehind()
		if f.Pipe().Len() != 0 {
			t.Error(f.Pipe().All())
		}
	}
}

// So it is with one that goes long ahead, while it stands in the wheel.
func TestDueAndLongAway(t *testing.T) {
	for _, kind := range []int{api.Cancel, api.Reset} {
		f := made(t, small(1, 1, 3))
		adds(t, f, 3, 5)
		tick(t, f)
		ok(t, f, api.Call{Kind: kind, Id: 64, Deadline: 9})
		tick(t, f)
		w := takesOver(t, f)
		if kind == api.Reset {
			w.goes(advances(0, 1, 9))
		} else {
			w.goes(advances(0, 1))
		}
		w.goes(nothing)
		w.leavesBehind()
	}
}

// The word of the slot is as the task has it, but the slot's number, or the task's, is another one.
func TestDueWithAnotherNumber(t *testing.T) {
	for _, x := range []api.Task{
		{Id: 0, Slot: 0, Gen: 1},
		{Id: 65, Slot: 0, Gen: 1},
		{Id: 128, Slot: 0, Gen: 1},
		{Id: math.MaxUint64 - 63, Slot: 0, Gen: 1},
		{Id: 64, Slot: 0, Gen: 0},
		{Id: 64, Slot: 0, Gen: 2},
		{Id: 64, Slot: 0, Gen: 1<<32 + 1},
		{Id: 64, Slot: 1, Gen: 1},
		{Id: 66, Slot: 2, Gen: 0},
		{Id: 64, Slot: 64, Gen: 0},
		{Id: 64, Slot: math.MaxInt, Gen: 1},
	} {
		f := made(t, small(1, 3, 3))
		adds(t, f, 20, 0)
		adds(t, f, 20, 0)
		tick(t, f)
		x.Deadline = 2
		if d, e := f.Shard(0).Arm(x); d != 2 || e != api.OK {
			t.Fatal(d, e)
		}
		w := takesOver(t, f)
		w.goes(advances(0, 1, 20), nothing)
		w.leavesBehind()
	}
}

// The slot was given again: what stands there under the number of the timer that had it doesn't fire.
func TestDueWithTheNumberBefore(t *testing.T) {
	for _, id := range []uint64{64, 192} {
		f := made(t, small(1, 1, 3))
		adds(t, f, 20, 0)
		ok(t, f, api.Call{Kind: api.Cancel, Id: 64})
		adds(t, f, 20, 0)
		tick(t, f)
		if d, e := f.Shard(0).Arm(api.Task{Id: id, Gen: 2, Deadline: 2}); d != 2 || e != api.OK {
			t.Fatal(d, e)
		}
		w := takesOver(t, f)
		w.goes(advances(0, 1, 20), nothing)
		w.leavesBehind()
	}
}

// Of several that are due those that are away take one step each, and the others fire.
func TestSomeOfTheDueAreAway(t *testing.T) {
	const n = 4
	for which := range 1 << n {
		f := made(t, small(1, n, n))
		for range n {
			adds(t, f, 2, 0)
		}
		tick(t, f)
		w := takesOver(t, f)
		w.goes(advances(0, n))
		for slot := range n {
			id := uint64(64 + slot)
			if which>>slot&1 == 0 {
				w.firesOnce(slot, id, 1, 2)
				continue
			}
			ok(t, f, api.Call{Kind: api.Cancel, Id: id})
			w.goes(nothing)
		}
		w.leavesBehind()
	}
}

// P17.1: a Claim that fails, since the word changed between the look and the try: it looks again.

func TestClaimThatFails(t *testing.T) {
	for _, goes := range away(t) {
		f, w := due(t, 5)
		w.goes(nothing)
		goes(f)
		w.goes(nothing, nothing)
		w.leavesBehind()
		if f.Pipe().Len() != 0 {
			t.Error(f.Pipe().All())
		}
	}
}

// It is stopped meanwhile: it fires, for the last time.
func TestClaimThatFailsAndThenDoesNot(t *testing.T) {
	f, w := due(t, 5)
	w.goes(nothing)
	ok(t, f, api.Call{Kind: api.Stop, Id: 64})
	w.goes(
		nothing,
		nothing,
		all(becomes(0, packed(api.Claimed, 1, true)), fires(64, 1, 1, 1)),
		puts(64, 1, 1, 1),
		nothing,
		becomes(0, packed(api.Done, 1, true)),
	)
	w.frees(0, 1)
	w.leavesBehind()
}

func TestClaimThatFailsTwice(t *testing.T) {
	f, w := due(t, 5)
	w.goes(nothing)
	ok(t, f, api.Call{Kind: api.Stop, Id: 64})
	w.goes(nothing, nothing)
	ok(t, f, api.Call{Kind: api.Cancel, Id: 64})
	w.goes(nothing, nothing)
	w.leavesBehind()
}

// P17.1: the firing in the pipe

// Its deadline is the one that the task had when it was armed, its tick the floor's time when it was claimed.
func TestFiringInThePipe(t *testing.T) {
	f := made(t, small(1, 1, 1))
	for now := uint64(1); now < 5; now++ {
		tick(t, f)
	}
	adds(t, f, 2, 3)
	w := takesOver(t, f)
	w.armsNext(false, 0, 64, 1, 5)
	w.goes(advances(0, 1))
	w.claims(0, 64, 1, 5)
	w.goes(puts(64, 1, 5, 5), nothing, all(becomes(0, packed(api.InWheel, 2, false)), arms(0, 64, 2, 8)))
	w.leavesBehind()
	tick(t, f)
	tick(t, f)
	w = takesOver(t, f)
	w.goes(advances(0, 1))
	w.claims(0, 64, 2, 8)
	w.goes(puts(64, 2, 8, 8))
	if l := f.Pipe().All(); len(l) != 2 || l[1] != (api.Firing{Id: 64, Gen: 2, Deadline: 8, Tick: 8}) {
		t.Error(l)
	}
}

// A pipe that is shut takes nothing in: the turn goes on all the same.
func TestFiringAndAShutPipe(t *testing.T) {
	f, w := due(t, 0)
	f.Pipe().Shut()
	w.claims(0, 64, 1, 1)
	w.goes(nothing, nothing)
	w.finishes(0, 1)
	w.leavesBehind()
}

// Another turn let the time go on meanwhile: the tick is the floor's time, and stays that of the claim in the pipe.
func TestTickIsTheFloorsTime(t *testing.T) {
	f, w := due(t, 0)
	w.goes(nothing)
	x := beginsAs(t, f, 4, 8)
	x.starts(2)
	x.waits()
	w.goes(all(becomes(0, packed(api.Claimed, 1, false)), fires(64, 1, 1, 2)))
	y := beginsAs(t, f, 5, 9)
	y.starts(3)
	y.waits()
	w.goes(puts(64, 1, 1, 2), nothing)
	w.finishes(0, 1)
	w.leavesBehind()
	x.passes(0)
	y.passes(0)
	y.succeeds()
	x.succeeds()
}

// P17.1: behind the firing

// claimed goes on to behind the firing of the timer 64, of that period, at 1.
func claimed(t *testing.T, period uint64) (*floor.Floor, *work) {
	t.Helper()
	f, w := due(t, period)
	w.claims(0, 64, 1, 1)
	w.goes(puts(64, 1, 1, 1))
	return f, w
}

// elsewhere are the ways by which a timer that fired, and has a period, isn't claimed any more, or by another one.
func elsewhere(t *testing.T) map[string]func(f *floor.Floor) {
	happen := func(events ...int) func(f *floor.Floor) {
		return func(f *floor.Floor) { goOn(t, f, 0, events...) }
	}
	return map[string]func(f *floor.Floor){
		"armed anew":     happen(word.Rearm),
		"claimed anew":   happen(word.Rearm, word.Claim),
		"cancelled":      happen(word.Cancel),
		"reset":          happen(word.Reset),
		"reset, claimed": happen(word.Reset, word.Enter, word.Claim),
		"done":           happen(word.Finish),
		"free":           happen(word.Finish, word.Release),
		"given again": func(f *floor.Floor) {
			ok(t, f, api.Call{Kind: api.Cancel, Id: 64})
			adds(t, f, 30, 3)
		},
	}
}

// The word isn't Claimed any more behind the firing: it takes one step, and changes nothing.
func TestElsewhereBehindTheFiring(t *testing.T) {
	for _, goes := range elsewhere(t) {
		f, w := claimed(t, 5)
		goes(f)
		w.goes(nothing)
		w.leavesBehind()
	}
}

// So it is when that comes between the claim and the pipe.
func TestElsewhereAheadOfThePipe(t *testing.T) {
	for _, goes := range elsewhere(t) {
		f, w := due(t, 5)
		w.claims(0, 64, 1, 1)
		goes(f)
		w.goes(puts(64, 1, 1, 1), nothing)
		w.leavesBehind()
	}
}

// A timer of periods fires a period apart, each time with the next generation, as long as nobody stops it.
func TestPeriods(t *testing.T) {
	for _, period := range []uint64{1, 2, 3, 64, 65} {
		f := made(t, small(1, 1, 1))
		adds(t, f, 2, period)
		w := takesOver(t, f)
		w.armsNext(false, 0, 64, 1, 2)
		w.leavesShard(2)
		for gen, deadline := uint64(1), uint64(2); gen < 6; gen, deadline = gen+1, deadline+period {
			for f.Now() < deadline-1 {
				takesOver(t, f).leavesShard(deadline)
			}
			w = takesOver(t, f)
			w.goes(advances(0, 1))
			w.claims(0, 64, gen, deadline)
			w.goes(
				puts(64, gen, deadline, deadline),
				nothing,
				all(becomes(0, packed(api.InWheel, gen+1, false)), arms(0, 64, gen+1, deadline+period)),
			)
			w.leavesBehind()
		}
	}
}

// The last one of a timer of periods: it is done, and that isn't noted.
func TestLastOfAPeriodicOne(t *testing.T) {
	for line := range 4 {
		f := made(t, small(1, 1, 3))
		adds(t, f, 0, 5)
		last := line == 0
		stop := func(at int) {
			if at == line {
				ok(t, f, api.Call{Kind: api.Stop, Id: 64})
				last = true
			}
		}
		stop(0)
		w := takesOver(t, f)
		w.goes(pops(0, false), nothing, all(becomes(0, packed(api.InWheel, 1, last)), arms(0, 64, 1, 1)), advances(0, 1))
		stop(1)
		w.goes(nothing, all(becomes(0, packed(api.Claimed, 1, last)), fires(64, 1, 1, 1)))
		stop(2)
		w.goes(puts(64, 1, 1, 1))
		stop(3)
		w.goes(nothing, becomes(0, packed(api.Done, 1, true)))
		w.frees(0, 1)
		w.leavesBehind()
		if f.Slab().Count() != 0 || f.Shard(0).Armed() != 0 {
			t.Error(f.Slab().Count(), f.Shard(0).Armed())
		}
	}
}

// A deadline and a period that fit together just: it is armed at the end of time.
func TestPeriodThatJustFits(t *testing.T) {
	_, w := claimed(t, math.MaxUint64-1)
	w.goes(nothing, all(becomes(0, packed(api.InWheel, 2, false)), arms(0, 64, 2, math.MaxUint64)))
	w.leavesBehind()
}

// What the deadline is when it is armed is what counts, not what the call named: with that it did fit.
func TestPeriodThatJustDoesNotFit(t *testing.T) {
	f, w := claimed(t, math.MaxUint64)
	w.goes(
		nothing,
		all(becomes(0, packed(api.Done, 1, false)), notes(api.Event{Kind: api.EvOver, Id: 64, Gen: 1})),
	)
	w.frees(0, 1)
	w.leavesBehind()
	if f.Slab().Count() != 0 {
		t.Error(f.Slab().Count())
	}
}

// So it is at a later generation: EvOver has the one that fired.
func TestOverOfALaterGeneration(t *testing.T) {
	f := made(t, small(1, 1, 2))
	adds(t, f, 0, math.MaxUint64-3)
	for range 4 {
		ok(t, f, api.Call{Kind: api.Reset, Id: 64, Deadline: 4})
		tick(t, f)
	}
	told := f.Trace()
	if e := told[len(told)-2]; e != (api.Event{Kind: api.EvOver, Thread: 5, What: api.Tick, Id: 64, Gen: 5}) {
		t.Error(e)
	}
	if l := f.Pipe().All(); len(l) != 1 || l[0] != (api.Firing{Id: 64, Gen: 5, Deadline: 4, Tick: 4}) || f.Slab().Count() != 0 {
		t.Error(l)
	}
}

// One that doesn't fit and is the last is done, as any last one.
func TestLastThatDoesNotFit(t *testing.T) {
	f, w := claimed(t, math.MaxUint64)
	ok(t, f, api.Call{Kind: api.Stop, Id: 64})
	w.goes(nothing, becomes(0, packed(api.Done, 1, true)))
	w.frees(0, 1)
	w.leavesBehind()
}

// A Rearm that fails is followed by its look again.
func TestRearmThatFails(t *testing.T) {
	for _, goes := range elsewhere(t) {
		f, w := claimed(t, 5)
		w.goes(nothing)
		goes(f)
		w.goes(nothing, nothing)
		w.leavesBehind()
	}
}

func TestRearmThatFailsAndThenFinishes(t *testing.T) {
	f, w := claimed(t, 5)
	w.goes(nothing)
	ok(t, f, api.Call{Kind: api.Stop, Id: 64})
	w.goes(nothing, nothing, becomes(0, packed(api.Done, 1, true)))
	w.frees(0, 1)
	w.leavesBehind()
}

// A Finish that fails is followed by its look again, likewise.
func TestFinishThatFails(t *testing.T) {
	for _, goes := range elsewhere(t) {
		f, w := claimed(t, math.MaxUint64)
		w.goes(nothing)
		goes(f)
		w.goes(nothing, nothing)
		w.leavesBehind()
	}
}

// It is stopped between the look and the try: it is the last then, and nothing is over.
func TestFinishThatFailsAndThenDoesNot(t *testing.T) {
	f, w := claimed(t, math.MaxUint64)
	w.goes(nothing)
	ok(t, f, api.Call{Kind: api.Stop, Id: 64})
	w.goes(nothing, nothing, becomes(0, packed(api.Done, 1, true)))
	w.frees(0, 1)
	w.leavesBehind()
}

// The task says whether there is a period: of a task without one the timer is done, and nothing is over.
func TestTaskWithoutAPeriod(t *testing.T) {
	f := made(t, small(1, 1, 2))
	x := place(t, f, 0)
	adds(t, f, 20, 5)
	fills(t, x, api.Task{Id: 64, Gen: 1, Deadline: 1})
	w := takesOver(t, f)
	w.armsNext(true, 0, 64, 1, 1)
	w.goes(pops(0, false), nothing, advances(0, 1))
	w.firesOnce(0, 64, 1, 1)
	w.leavesBehind()
}

// Release happens to the word that the slot has then, if it may: somebody else may have freed it.
func TestReleaseOfWhatIsFree(t *testing.T) {
	f, w := claimed(t, 0)
	w.goes(nothing, becomes(0, packed(api.Done, 1, false)))
	goOn(t, f, 0, word.Release)
	w.goes(nothing, drops)
	w.leavesBehind()
}

// The record is there for the next one right behind the release, as far as it is counted, behind the drop.
func TestRecordIsFreeBehindTheDrop(t *testing.T) {
	f, w := claimed(t, 0)
	full := func() {
		t.Helper()
		if a := run(t, f, api.Call{Kind: api.Schedule, Deadline: 9}); a.Err != api.ErrFull {
			t.Fatal(a)
		}
	}
	full()
	w.goes(nothing, becomes(0, packed(api.Done, 1, false)))
	full()
	w.goes(becomes(0, packed(api.Free, 1, false)))
	full()
	w.goes(drops)
	if id := adds(t, f, 9, 0); id != 128 {
		t.Fatal(id)
	}
	w.leavesBehind()
	w = takesOver(t, f)
	w.armsNext(false, 0, 128, 2, 9)
	w.leavesShard(9)
}
