package calls_test

import (
	"math"
	"testing"

	"verge/api"
	"verge/word"
)

// Reset, line by line.

// resets are calls of a timer, with what else a call may say.
func resets(id uint64) []api.Call {
	return []api.Call{
		{Kind: api.Reset, Id: id},
		{Kind: api.Reset, Id: id, Deadline: 9},
		{Kind: api.Reset, Id: id, Deadline: 9, Period: 4},
		{Kind: api.Reset, Id: id, Deadline: math.MaxUint64, Period: math.MaxUint64},
	}
}

// refusedInside is a refusal of a work that is inside.
func (w *work) refusedInside(e api.Errno) {
	w.t.Helper()
	w.goes(refuses(e), leaves)
	w.ends(api.Answer{Err: e})
}

// refusedWithPlace is a refusal of a work that is inside, and has a place in a shard's ring, the first one.
func (w *work) refusedWithPlace(shard int) {
	w.t.Helper()
	w.goes(refuses(api.OK), fills(shard), leaves)
	w.ends(api.Answer{})
	pops(w.t, w.f, shard, api.Task{Slot: -1})
}

// goesToPlace goes the way of a Reset up to its place in a shard's ring, if nobody steps between: the lines 1 to 4.
func (w *work) goesToPlace(shard int) {
	w.t.Helper()
	w.goes(enters, nothing, nothing)
	w.takesPlace(shard)
}

// resets is line 6, of a timer of the generation gen behind it.
func (w *work) resets(s sort, gen uint64) {
	w.t.Helper()
	slot := int(w.call.Id % 64)
	e := api.Event{Kind: api.EvReset, Id: w.call.Id, Gen: gen, Deadline: w.call.Deadline}
	w.goes(all(s.becomes(slot, api.Queued, gen), notes(e)))
}

// tasks is what comes behind that, up to the task of a timer with that period; all that is ahead of it in the ring is
// popped, and published.
func (w *work) tasks(shard int, gen, period uint64) {
	w.t.Helper()
	w.goes(fills(shard), leaves)
	w.ends(api.Answer{Ok: true, Id: w.call.Id, Gen: gen})
	slot := int(w.call.Id % 64)
	pops(w.t, w.f, shard, api.Task{Id: w.call.Id, Slot: slot, Gen: gen, Deadline: w.call.Deadline, Period: period})
}

// period is that of the record of such a timer.
func (s sort) period() uint64 {
	if s.periodic {
		return 3
	}
	return 0
}

func TestResetOnAClosedFloor(t *testing.T) {
	for _, id := range []uint64{0, 64, 65, 66, 128, math.MaxUint64} {
		for _, c := range resets(id) {
			f := room(t)
			adds(t, f, 5, 3)
			adds(t, f, 5, 0)
			f.Shut()
			w := begins(t, f, c)
			w.goes(enters)
			w.refusedAsClosed()
			// Closed behind its beginning, and when it is inside.
			for ahead := range 2 {
				f := room(t)
				adds(t, f, 5, 3)
				w := begins(t, f, c)
				l := []change{enters}
				w.goes(l[:ahead]...)
				f.Shut()
				w.goes(l[ahead:]...)
				w.refusedAsClosed()
			}
		}
	}
}

// Behind the step that asks it is as if the floor weren't closed.
func TestResetThatIsInsideWhenItIsClosed(t *testing.T) {
	for ahead := 2; ahead <= 10; ahead++ {
		f := room(t)
		id := adds(t, f, 5, 3)
		w := begins(t, f, api.Call{Kind: api.Reset, Id: id, Deadline: 8})
		for range ahead {
			w.k.Step()
		}
		f.Shut()
		for w.k.Step() {
		}
		w.isDone(api.Answer{Ok: true, Id: id, Gen: 2})
		pops(t, f, 0, api.Task{Id: id, Gen: 2, Deadline: 8, Period: 3})
	}
}

func TestResetOfANumberThatWasNeverGiven(t *testing.T) {
	for _, id := range strangers(3, 2) {
		for _, c := range resets(id) {
			f := room(t)
			for range 3 {
				adds(t, f, 5, 3)
			}
			w := begins(t, f, c)
			w.goes(enters, nothing)
			w.refusedInside(api.ErrInvalid)
		}
	}
}

func TestResetOfASlotThatWasGivenAgain(t *testing.T) {
	for _, s := range sorts() {
		for _, c := range resets(64) {
			f := room(t)
			adds(t, f, 5, 3)
			frees(t, f, 0)
			s.brings(t, f)
			w := begins(t, f, c)
			w.goes(enters, nothing)
			w.refusedInside(api.OK)
		}
	}
}

func TestResetOfEachSort(t *testing.T) {
	for _, s := range sorts() {
		for slot := range 3 {
			for _, c := range resets(uint64(64 + slot)) {
				f := room(t)
				for range slot {
					adds(t, f, 5, 2)
				}
				s.brings(t, f)
				w := begins(t, f, c)
				if !s.mayReset() {
					w.goes(enters, nothing)
					w.refusedInside(api.OK)
					continue
				}
				w.goesToPlace(slot % 2)
				w.goes(nothing)
				w.resets(s, 2)
				w.tasks(slot%2, 2, s.period())
			}
		}
	}
}

func TestResetOfALaterGeneration(t *testing.T) {
	f := room(t)
	id := adds(t, f, 5, 3)
	for gen := uint64(2); gen < 8; gen++ {
		w := begins(t, f, api.Call{Kind: api.Reset, Id: id, Deadline: 10 * gen})
		w.goesToPlace(0)
		w.goes(nothing)
		w.resets(sort{}, gen)
		w.tasks(0, gen, 3)
	}
}

func TestResetWithNoPlace(t *testing.T) {
	for _, s := range sorts() {
		f := room(t)
		adds(t, f, 5, 0)
		id := s.brings(t, f)
		stuffs(t, f, 1)
		w := begins(t, f, api.Call{Kind: api.Reset, Id: id, Deadline: 9})
		if !s.mayReset() {
			// What is gone is refused ahead of that.
			w.goes(enters, nothing)
			w.refusedInside(api.OK)
			continue
		}
		w.goes(enters, nothing, nothing, nothing)
		w.refusedInside(api.ErrFull)
	}
	// Only the ring of the slot's home plays a part.
	f := room(t)
	id := adds(t, f, 5, 0)
	stuffs(t, f, 1)
	if a := run(t, f, api.Call{Kind: api.Reset, Id: id}); !a.Ok {
		t.Fatal(a)
	}
}

// A place that is full is what it is refused for, even if the timer went meanwhile.
func TestResetWithNoPlaceOfATimerThatGoes(t *testing.T) {
	f := room(t)
	id := adds(t, f, 5, 0)
	stuffs(t, f, 0)
	w := begins(t, f, api.Call{Kind: api.Reset, Id: id, Deadline: 9})
	w.goes(enters, nothing, nothing)
	frees(t, f, 0)
	w.goes(nothing)
	w.refusedInside(api.ErrFull)
}

// The ticket begins anew, when another work takes the place, and is full, when that was the last one.
func TestResetWhosePlaceAnotherOneTakes(t *testing.T) {
	f := made(t, small(2, 2))
	id := adds(t, f, 5, 0)
	w := begins(t, f, api.Call{Kind: api.Reset, Id: id, Deadline: 9})
	w.goes(enters, nothing, nothing, nothing, nothing)
	if a := run(t, f, api.Call{Kind: api.Schedule, Deadline: 7}); a.Id != 65 {
		t.Fatal(a)
	}
	w.goes(nothing)
	w.takesPlace(0)
	pops(t, f, 0, api.Task{Id: 65, Slot: 1, Gen: 1, Deadline: 7})
	w.goes(nothing)
	w.resets(sort{}, 2)
	w.tasks(0, 2, 0)

	f = made(t, small(2, 1))
	id = adds(t, f, 5, 0)
	w = begins(t, f, api.Call{Kind: api.Reset, Id: id, Deadline: 9})
	w.goes(enters, nothing, nothing, nothing, nothing)
	if a := run(t, f, api.Call{Kind: api.Schedule, Deadline: 7}); a.Id != 65 {
		t.Fatal(a)
	}
	w.goes(nothing, nothing)
	w.refusedInside(api.ErrFull)
}

// Ahead of the second look the word becomes another one, to which it may happen: that one plays a part alone.
func TestResetWhoseWordBecomesAnotherOneAheadOfItsPlace(t *testing.T) {
	for ahead := 3; ahead <= 6; ahead++ {
		f := room(t)
		s := sort{state: api.Queued, periodic: true}
		id := s.brings(t, f)
		w := begins(t, f, api.Call{Kind: api.Reset, Id: id, Deadline: 9})
		l := []change{enters, nothing, nothing, nothing, nothing, places(0)}
		w.goes(l[:ahead]...)
		goOn(t, f, 0, word.Enter, word.Claim, word.Rearm)
		w.goes(l[ahead:]...)
		w.goes(nothing)
		w.resets(sort{}, 3)
		w.tasks(0, 3, 3)
	}
}

// Between the second look and the try the word becomes another one: it looks again, as often as that happens.
func TestResetThatLooksAgainAndAgain(t *testing.T) {
	f := room(t)
	id := sort{state: api.Queued, periodic: true}.brings(t, f)
	w := begins(t, f, api.Call{Kind: api.Reset, Id: id, Deadline: 9})
	w.goesToPlace(0)
	w.goes(nothing)
	gen := uint64(1)
	for range 5 {
		for _, event := range []int{word.Enter, word.Claim, word.Rearm, word.Reset} {
			goOn(t, f, 0, event)
			w.goes(nothing, nothing)
		}
		gen += 2
	}
	goOn(t, f, 0, word.Stop)
	w.goes(nothing, nothing)
	w.resets(sort{last: true}, gen+1)
	w.tasks(0, gen+1, 3)
}

// goings let a timer go that a Reset was still to happen to: freed, given again, claimed for the last time.
func goings(t *testing.T) map[string]func(w *work, s sort) {
	t.Helper()
	return map[string]func(w *work, s sort){
		"freed":       func(w *work, s sort) { frees(t, w.f, 0) },
		"given again": func(w *work, s sort) { frees(t, w.f, 0); s.brings(t, w.f) },
		"cancelled": func(w *work, s sort) {
			if a := run(t, w.f, api.Call{Kind: api.Cancel, Id: 64}); !a.Ok {
				t.Fatal(a)
			}
		},
		"being cancelled": func(w *work, s sort) { goOn(t, w.f, 0, word.Cancel) },
		"fired for the last time": func(w *work, s sort) {
			if s.periodic {
				goOn(t, w.f, 0, word.Stop)
			}
			if s.state == api.Queued {
				goOn(t, w.f, 0, word.Enter)
			}
			if s.state != api.Claimed {
				goOn(t, w.f, 0, word.Claim)
			}
		},
	}
}

// live are the sorts to which a Reset may happen, and that may still be stopped if they are periodic.
func live() []sort {
	return []sort{
		{state: api.Queued},
		{state: api.Queued, periodic: true},
		{state: api.InWheel},
		{state: api.InWheel, periodic: true},
		{state: api.Claimed, periodic: true},
	}
}

func TestResetThatComesTooLate(t *testing.T) {
	for name, goes := range goings(t) {
		for _, s := range live() {
			// Ahead of each step from the first look on, up to the second one.
			for ahead := 3; ahead <= 6; ahead++ {
				f := room(t)
				id := s.brings(t, f)
				w := begins(t, f, api.Call{Kind: api.Reset, Id: id, Deadline: 9, Period: 6})
				l := []change{enters, nothing, nothing, nothing, nothing, places(0)}
				w.goes(l[:ahead]...)
				goes(w, s)
				w.goes(l[ahead:]...)
				w.refusedWithPlace(0)
			}
			// Between the second look and the try.
			f := room(t)
			id := s.brings(t, f)
			w := begins(t, f, api.Call{Kind: api.Reset, Id: id, Deadline: 9, Period: 6})
			w.goesToPlace(0)
			w.goes(nothing)
			goes(w, s)
			w.goes(nothing)
			w.refusedWithPlace(0)
			if t.Failed() {
				t.Fatal(name)
			}
		}
	}
}

// What is refused in the end may be let go again and again: the place is filled with nothing once.
func TestResetThatComesTooLateInTheEnd(t *testing.T) {
	f := room(t)
	id := sort{state: api.Queued, periodic: true}.brings(t, f)
	w := begins(t, f, api.Call{Kind: api.Reset, Id: id, Deadline: 9})
	w.goesToPlace(0)
	w.goes(nothing)
	for _, event := range []int{word.Enter, word.Claim, word.Rearm, word.Claim} {
		goOn(t, f, 0, event)
		w.goes(nothing, nothing)
	}
	goOn(t, f, 0, word.Stop)
	w.goes(nothing)
	w.refusedWithPlace(0)
	if got := f.Shard(0).Waiting(); got != 0 {
		t.Fatal("waiting:", got)
	}
}

// Its task has the generation that was noted, though by now the timer has another one, or is gone.
func TestResetWhoseTimerChangesAheadOfItsTask(t *testing.T) {
	f := room(t)
	id := adds(t, f, 5, 3)
	w := begins(t, f, api.Call{Kind: api.Reset, Id: id, Deadline: 9})
	w.goesToPlace(0)
	w.goes(nothing)
	w.resets(sort{}, 2)
	if a := run(t, f, api.Call{Kind: api.Reset, Id: id, Deadline: 12}); !a.Ok || a.Gen != 3 {
		t.Fatal(a)
	}
	w.tasks(0, 2, 3)
	pops(t, f, 0, api.Task{Id: id, Gen: 3, Deadline: 12, Period: 3})

	f = room(t)
	id = adds(t, f, 5, 3)
	w = begins(t, f, api.Call{Kind: api.Reset, Id: id, Deadline: 9})
	w.goesToPlace(0)
	w.goes(nothing)
	w.resets(sort{}, 2)
	if a := run(t, f, api.Call{Kind: api.Cancel, Id: id}); !a.Ok || a.Gen != 2 {
		t.Fatal(a)
	}
	w.tasks(0, 2, 3)
}

// Two look at one word: one of them resets it, the other one looks again, and resets that.
func TestTwoResetsOfOneWord(t *testing.T) {
	f := room(t)
	id := adds(t, f, 5, 0)
	w := beginsAs(t, f, 0, 1, api.Call{Kind: api.Reset, Id: id, Deadline: 7})
	x := beginsAs(t, f, 1, 2, api.Call{Kind: api.Reset, Id: id, Deadline: 8})
	w.goesToPlace(0)
	x.goesToPlace(0)
	w.goes(nothing)
	x.goes(nothing)
	x.resets(sort{}, 2)
	w.goes(nothing, nothing)
	w.resets(sort{}, 3)
	w.tasks(0, 3, 0)
	x.tasks(0, 2, 0)
}

// What is reset may be cancelled, stopped, or be both at once, in between.
func TestResetAndCancelOfOneWord(t *testing.T) {
	f := room(t)
	id := adds(t, f, 5, 0)
	w := beginsAs(t, f, 0, 1, api.Call{Kind: api.Reset, Id: id, Deadline: 7})
	x := beginsAs(t, f, 1, 2, api.Call{Kind: api.Cancel, Id: id})
	w.goesToPlace(0)
	w.goes(nothing)
	x.goes(nothing, nothing)
	w.resets(sort{}, 2)
	// The Cancel saw the elder generation: it takes the next one, too.
	x.goes(nothing, nothing)
	x.cancels(sort{}, 2)
	x.releases(2)
	w.tasks(0, 2, 0)

	f = room(t)
	id = adds(t, f, 5, 0)
	w = beginsAs(t, f, 0, 1, api.Call{Kind: api.Reset, Id: id, Deadline: 7})
	x = beginsAs(t, f, 1, 2, api.Call{Kind: api.Cancel, Id: id})
	w.goesToPlace(0)
	w.goes(nothing)
	x.goes(nothing, nothing)
	x.cancels(sort{}, 1)
	w.goes(nothing)
	w.refusedWithPlace(0)
	x.releases(1)
}
