package turn_test

import (
	"math"
	"testing"

	"verge/api"
	"verge/floor"
	"verge/word"
)

// P17.1: what waits, line by line.

// takesOver begins a turn, and goes on to where the first task is to be popped; nobody steps between.
func takesOver(t *testing.T, f *floor.Floor) *work {
	t.Helper()
	w := begins(t, f)
	w.starts(f.Now() + 1)
	w.goes(locks(0), nothing)
	return w
}

// leavesShard goes on from where nothing waits any more, and nothing is due.
func (w *work) leavesShard(next ...uint64) {
	w.t.Helper()
	w.goes(advances(0, 0, next...), unlocks(0))
	w.succeeds()
}

// armsNext takes in the next task, which is armed.
func (w *work) armsNext(ready bool, slot int, id, gen, deadline uint64) {
	w.t.Helper()
	w.goes(
		pops(0, ready),
		nothing,
		all(becomes(slot, packed(api.InWheel, gen, false)), arms(0, id, gen, deadline)),
	)
}

func TestSomeWait(t *testing.T) {
	for n := range 6 {
		f := made(t, small(1, 6, 6))
		for i := range n {
			adds(t, f, uint64(20+i), uint64(i%2*9))
		}
		w := takesOver(t, f)
		for i := range n {
			w.armsNext(i+1 < n, i, uint64(64+i), 1, uint64(20+i))
		}
		if n == 0 {
			w.leavesShard()
		} else {
			w.leavesShard(20)
		}
		// They are told as they were handed over, when they are due.
		for range 18 {
			tick(t, f)
		}
		for i := range n {
			tick(t, f)
			if l := f.Pipe().All(); len(l) != i+1 || l[i] != (api.Firing{Id: uint64(64 + i), Gen: 1, Deadline: uint64(20 + i), Tick: uint64(20 + i)}) {
				t.Fatal(l)
			}
		}
	}
}

// A place that waits and isn't published yet is waited for; those behind it don't get ahead of it.
func TestPlaceThatIsNotReady(t *testing.T) {
	f := made(t, small(1, 3, 4))
	adds(t, f, 9, 0)
	x := place(t, f, 0)
	adds(t, f, 8, 0)
	w := takesOver(t, f)
	w.armsNext(false, 0, 64, 1, 9)
	w.waits()
	adds(t, f, 7, 0)
	w.waits()
	fills(t, x, api.Task{Slot: -1})
	w.goes(pops(0, true))
	w.armsNext(true, 1, 65, 1, 8)
	// The last one came behind the look: it waits for the next turn.
	w.leavesShard(8)
	w = takesOver(t, f)
	w.armsNext(false, 2, 66, 1, 7)
	w.leavesShard(7)
}

// The first place isn't ready: nothing is popped at all till then.
func TestFirstPlaceThatIsNotReady(t *testing.T) {
	for slot := range 2 {
		f := made(t, small(2, 2, 2))
		x := place(t, f, slot)
		w := begins(t, f)
		w.starts(1)
		if slot == 1 {
			w.passes(0)
		}
		w.goes(locks(slot), nothing)
		w.waits()
		fills(t, x, api.Task{Slot: -1})
		w.goes(pops(slot, false), advances(slot, 0), unlocks(slot))
		if slot == 0 {
			w.passes(1)
		}
		w.succeeds()
	}
}

// What comes ahead of the look is taken in, what comes behind it isn't, whether it is published or not.
func TestMoreComeBehindTheLook(t *testing.T) {
	f := made(t, small(1, 4, 4))
	w := begins(t, f)
	w.starts(1)
	adds(t, f, 5, 0)
	w.goes(locks(0))
	adds(t, f, 6, 0)
	w.goes(nothing)
	adds(t, f, 1, 0)
	w.armsNext(true, 0, 64, 1, 5)
	place(t, f, 0)
	w.armsNext(true, 1, 65, 1, 6)
	w.leavesShard(5)

	g := made(t, small(1, 4, 4))
	w = takesOver(t, g)
	adds(t, g, 1, 0)
	w.leavesShard()
}

// A task of nothing takes one step.
func TestTaskOfASlotBelow0(t *testing.T) {
	f := made(t, small(1, 3, 5))
	adds(t, f, 9, 0)
	for _, x := range []api.Task{{Slot: -1}, {Slot: math.MinInt}, {Id: 64, Slot: -1, Gen: 1, Deadline: 7, Period: 2}} {
		fills(t, place(t, f, 0), x)
	}
	adds(t, f, 8, 0)
	w := takesOver(t, f)
	w.armsNext(true, 0, 64, 1, 9)
	w.goes(pops(0, true), pops(0, true), pops(0, true))
	w.armsNext(false, 1, 65, 1, 8)
	w.leavesShard(8)
}

// gone are the ways by which a timer of the slot 0, whose task of the generation 1 waits, isn't waited for any more.
func gone(t *testing.T) map[string]func(f *floor.Floor) {
	happen := func(events ...int) func(f *floor.Floor) {
		return func(f *floor.Floor) { goOn(t, f, 0, events...) }
	}
	return map[string]func(f *floor.Floor){
		"in the wheel":   happen(word.Enter),
		"claimed":        happen(word.Enter, word.Claim),
		"done":           happen(word.Enter, word.Claim, word.Finish),
		"armed anew":     happen(word.Enter, word.Claim, word.Rearm),
		"cancelled":      happen(word.Cancel),
		"cancelled late": happen(word.Enter, word.Claim, word.Cancel),
		"free":           happen(word.Cancel, word.Release),
		"another one's":  func(f *floor.Floor) { happen(word.Cancel, word.Release, word.Alloc)(f) },
		"reset":          happen(word.Reset),
		"given again": func(f *floor.Floor) {
			ok(t, f, api.Call{Kind: api.Cancel, Id: 64})
			adds(t, f, 30, 3)
		},
	}
}

// A task that isn't waited for any more takes two steps, and changes nothing.
func TestTimerThatIsGone(t *testing.T) {
	for name, goes := range gone(t) {
		for ahead := range 4 {
			f := made(t, small(1, 1, 3))
			adds(t, f, 20, 5)
			w := begins(t, f)
			steps := []change{enters, nothing, ticks(1), locks(0)}
			for i, c := range steps {
				if i == ahead {
					goes(f)
				}
				w.goes(c)
			}
			more := f.Shard(0).Waiting() > 1
			w.goes(nothing, pops(0, more), nothing)
			if more {
				if name != "given again" {
					t.Fatal(name, "waits twice")
				}
				w.armsNext(false, 0, 128, 2, 30)
				w.leavesShard(30)
				continue
			}
			w.leavesShard()
		}
	}
}

// So it is when it goes between the pop and the look.
func TestTimerThatGoesBehindThePop(t *testing.T) {
	for _, goes := range gone(t) {
		f := made(t, small(1, 1, 3))
		adds(t, f, 20, 5)
		w := takesOver(t, f)
		w.goes(pops(0, false))
		goes(f)
		w.goes(nothing)
		w.leavesShard()
	}
}

// Tasks of another Gen, of another Id, or of a slot that there isn't: nothing is looked for in these.
func TestTasksOfNoTimer(t *testing.T) {
	for _, x := range []api.Task{
		{Id: 64, Slot: 0, Gen: 0},
		{Id: 64, Slot: 0, Gen: 2},
		{Id: 64, Slot: 0, Gen: 1 << 32},
		{Id: 64, Slot: 0, Gen: 1<<32 + 1},
		{Id: 64, Slot: 0, Gen: math.MaxUint64},
		{Id: 0, Slot: 0, Gen: 1},
		{Id: 65, Slot: 0, Gen: 1},
		{Id: 128, Slot: 0, Gen: 1},
		{Id: math.MaxUint64, Slot: 0, Gen: 1},
		{Id: 1 << 63, Slot: 0, Gen: 1},
		{Id: 64, Slot: 1, Gen: 1},
		{Id: 66, Slot: 2, Gen: 1},
		{Id: 66, Slot: 2, Gen: 0},
		{Id: 67, Slot: 3, Gen: 1},
		{Id: 67, Slot: 3, Gen: 0},
		{Id: 64, Slot: 64, Gen: 1},
		{Id: 64, Slot: 64, Gen: 0},
		{Id: 64, Slot: math.MaxInt, Gen: 1},
	} {
		x.Deadline, x.Period = 9, 4
		// The slots 0 and 1 have timers, the slot 2 never had one, the slot 3 isn't there.
		f := made(t, small(1, 3, 4))
		adds(t, f, 20, 5)
		adds(t, f, 30, 5)
		fills(t, place(t, f, 0), x)
		w := takesOver(t, f)
		w.armsNext(true, 0, 64, 1, 20)
		w.armsNext(true, 1, 65, 1, 30)
		w.goes(pops(0, false), nothing)
		w.leavesShard(20)

		// So it is while the words are as the task has them.
		f = made(t, small(1, 3, 4))
		fills(t, place(t, f, 0), x)
		adds(t, f, 20, 5)
		adds(t, f, 30, 5)
		w = takesOver(t, f)
		w.goes(pops(0, true), nothing)
		w.armsNext(true, 0, 64, 1, 20)
		w.armsNext(false, 1, 65, 1, 30)
		w.leavesShard(20)
	}
}

// The slot was given again: the number of the timer that had it isn't its slot's any more, whatever the generation is.
func TestTaskOfTheTimerBefore(t *testing.T) {
	for _, id := range []uint64{64, 192} {
		f := made(t, small(1, 1, 3))
		adds(t, f, 20, 5)
		ok(t, f, api.Call{Kind: api.Cancel, Id: 64})
		tick(t, f)
		fills(t, place(t, f, 0), api.Task{Id: id, Gen: 2, Deadline: 9})
		adds(t, f, 30, 5)
		w := takesOver(t, f)
		w.goes(pops(0, true), nothing)
		w.armsNext(false, 0, 128, 2, 30)
		w.leavesShard(30)
	}
}

// So it is with the same task twice: the second one comes too late.
func TestSameTaskTwice(t *testing.T) {
	f := made(t, small(1, 1, 2))
	adds(t, f, 20, 0)
	fills(t, place(t, f, 0), api.Task{Id: 64, Gen: 1, Deadline: 9})
	w := takesOver(t, f)
	w.armsNext(true, 0, 64, 1, 20)
	w.goes(pops(0, false), nothing)
	w.leavesShard(20)
}

// A timer that was stopped waits as any other one: that it is the last stays.
func TestStoppedTimerThatWaits(t *testing.T) {
	f := made(t, small(1, 1, 2))
	adds(t, f, 20, 5)
	ok(t, f, api.Call{Kind: api.Stop, Id: 64})
	w := takesOver(t, f)
	w.goes(pops(0, false), nothing, all(becomes(0, packed(api.InWheel, 1, true)), arms(0, 64, 1, 20)))
	w.leavesShard(20)
}

// P17.1: an Enter that fails, since the word changed between the look and the try: it looks again.

func TestEnterThatFails(t *testing.T) {
	for name, goes := range gone(t) {
		f := made(t, small(1, 1, 3))
		adds(t, f, 20, 5)
		w := takesOver(t, f)
		w.goes(pops(0, false), nothing)
		goes(f)
		w.goes(nothing, nothing)
		w.leavesShard()
		if name == "given again" {
			w = takesOver(t, f)
			w.armsNext(false, 0, 128, 2, 30)
			w.leavesShard(30)
		}
	}
}

func TestEnterThatFailsAndThenDoesNot(t *testing.T) {
	f := made(t, small(1, 1, 3))
	adds(t, f, 20, 5)
	w := takesOver(t, f)
	w.goes(pops(0, false), nothing)
	ok(t, f, api.Call{Kind: api.Stop, Id: 64})
	w.goes(nothing, nothing, all(becomes(0, packed(api.InWheel, 1, true)), arms(0, 64, 1, 20)))
	w.leavesShard(20)
}

// It fails, looks, fails again, and looks again.
func TestEnterThatFailsTwice(t *testing.T) {
	f := made(t, small(1, 1, 3))
	adds(t, f, 20, 5)
	w := takesOver(t, f)
	w.goes(pops(0, false), nothing)
	ok(t, f, api.Call{Kind: api.Stop, Id: 64})
	w.goes(nothing, nothing)
	ok(t, f, api.Call{Kind: api.Reset, Id: 64, Deadline: 30})
	w.goes(nothing, nothing)
	w.leavesShard()
	w = takesOver(t, f)
	w.goes(pops(0, false), nothing, all(becomes(0, packed(api.InWheel, 2, true)), arms(0, 64, 2, 30)))
	w.leavesShard(30)
}

// P17.1: the deadline that a task has when it is armed

func TestDeadlineWhenArmed(t *testing.T) {
	const now = 70
	for _, q := range []struct{ deadline, armed uint64 }{
		{0, now + 1},
		{1, now + 1},
		{now - 1, now + 1},
		{now, now + 1},
		{now + 1, now + 1},
		{now + 2, now + 2},
		{now + 3, now + 3},
		{4096, 4096},
		{1 << 40, 1 << 40},
		{math.MaxUint64 - 1, math.MaxUint64 - 1},
		{math.MaxUint64, math.MaxUint64},
	} {
		f := made(t, small(1, 1, 1))
		for range now {
			tick(t, f)
		}
		adds(t, f, q.deadline, 0)
		w := takesOver(t, f)
		w.armsNext(false, 0, 64, 1, q.armed)
		if q.armed != now+1 {
			w.leavesShard(q.armed)
			continue
		}
		w.goes(advances(0, 1))
		w.firesOnce(0, 64, 1, now+1)
		w.goes(unlocks(0))
		w.succeeds()
	}
}
