package calls_test

import (
	"math"
	"testing"

	"verge/api"
	"verge/floor"
	"verge/word"
)

// Cancel and Stop, line by line.

// room is a floor with two shards, room for three timers, and two places in each ring.
func room(t *testing.T) *floor.Floor {
	t.Helper()
	return made(t, api.Config{Shards: 2, Cap: 3, Ring: 2, Room: 1, Workers: 1, Clients: 1})
}

// endings are the kinds that are gone through here, each with what else a call may say.
func endings(id uint64) []api.Call {
	return []api.Call{
		{Kind: api.Cancel, Id: id},
		{Kind: api.Stop, Id: id},
		{Kind: api.Cancel, Id: id, Deadline: 9, Period: 4},
		{Kind: api.Stop, Id: id, Deadline: math.MaxUint64, Period: math.MaxUint64},
	}
}

// cancels is line 3 of a Cancel, of a timer of the generation gen behind it; releases what comes behind that.
func (w *work) cancels(s sort, gen uint64) {
	w.t.Helper()
	slot := int(w.call.Id % 64)
	w.goes(all(s.becomes(slot, api.Cancelled, gen), notes(api.Event{Kind: api.EvCancel, Id: w.call.Id, Gen: gen})))
}

func (w *work) releases(gen uint64) {
	w.t.Helper()
	w.goes(becomes(int(w.call.Id%64), api.Free, gen), counts(-1))
	w.ends(api.Answer{Ok: true, Id: w.call.Id, Gen: gen})
}

// stops is line 3 of a Stop, and the end.
func (w *work) stops(state api.State, gen uint64) {
	w.t.Helper()
	slot := int(w.call.Id % 64)
	w.goes(all(becomesLast(slot, state, gen), notes(api.Event{Kind: api.EvStop, Id: w.call.Id, Gen: gen})))
	w.ends(api.Answer{Ok: true, Id: w.call.Id, Gen: gen})
}

// refusedAtOnce is a refusal of a work that isn't inside.
func (w *work) refusedAtOnce(e api.Errno) {
	w.t.Helper()
	w.goes(refuses(e))
	w.ends(api.Answer{Err: e})
}

func TestEndingOnAClosedFloor(t *testing.T) {
	for _, id := range []uint64{0, 64, 65, 66, 128, math.MaxUint64} {
		for _, c := range endings(id) {
			f := room(t)
			adds(t, f, 5, 3)
			adds(t, f, 5, 0)
			f.Shut()
			begins(t, f, c).refusedAtOnce(api.ErrClosed)
			// Closed behind its beginning.
			f = room(t)
			adds(t, f, 5, 3)
			w := begins(t, f, c)
			f.Shut()
			w.refusedAtOnce(api.ErrClosed)
		}
	}
}

// Behind the step that asks it is as if the floor weren't closed.
func TestEndingThatBeganWhenItIsClosed(t *testing.T) {
	for ahead := 1; ahead <= 5; ahead++ {
		for _, c := range endings(64)[:2] {
			f := room(t)
			adds(t, f, 5, 3)
			w := begins(t, f, c)
			for range ahead {
				w.k.Step()
			}
			f.Shut()
			for w.k.Step() {
			}
			w.isDone(api.Answer{Ok: true, Id: 64, Gen: 1})
		}
	}
}

func TestEndingOfANumberThatWasNeverGiven(t *testing.T) {
	for _, id := range strangers(3, 3) {
		for _, c := range endings(id) {
			f := room(t)
			if id/64 == 3 {
				// Each slot was given twice.
				for range 2 {
					for range 3 {
						adds(t, f, 5, 3)
					}
					for slot := range 3 {
						frees(t, f, slot)
					}
				}
			} else {
				adds(t, f, 5, 3)
			}
			w := begins(t, f, c)
			w.goes(nothing)
			w.refusedAtOnce(api.ErrInvalid)
		}
	}
}

// What is noted later hangs on what is there when it looks.
func TestEndingOfANumberThatIsGivenBetween(t *testing.T) {
	f := room(t)
	w := begins(t, f, api.Call{Kind: api.Cancel, Id: 64})
	w.goes(nothing)
	adds(t, f, 5, 0)
	w.goes(nothing)
	w.cancels(sort{}, 1)
	w.releases(1)
}

func TestEndingOfASlotThatWasGivenAgain(t *testing.T) {
	for _, s := range sorts() {
		for _, c := range endings(64) {
			f := room(t)
			adds(t, f, 5, 3)
			frees(t, f, 0)
			if id := s.brings(t, f); id != 128 {
				t.Fatal(id)
			}
			w := begins(t, f, c)
			w.goes(nothing)
			w.refusedAtOnce(api.OK)
		}
	}
}

func TestCancelOfEachSort(t *testing.T) {
	for _, s := range sorts() {
		for slot := range 3 {
			f := room(t)
			for range slot {
				adds(t, f, 5, 0)
			}
			id := s.brings(t, f)
			w := begins(t, f, api.Call{Kind: api.Cancel, Id: id})
			w.goes(nothing)
			if !s.mayEnd() {
				w.refusedAtOnce(api.OK)
				continue
			}
			gen := uint64(1)
			if s.state == api.Claimed {
				gen = 2
			}
			w.goes(nothing)
			w.cancels(s, gen)
			w.releases(gen)
		}
	}
}

func TestStopOfEachSort(t *testing.T) {
	for _, s := range sorts() {
		for slot := range 3 {
			f := room(t)
			for range slot {
				adds(t, f, 5, 3)
			}
			id := s.brings(t, f)
			w := begins(t, f, api.Call{Kind: api.Stop, Id: id})
			w.goes(nothing)
			if !s.mayStop() {
				w.refusedAtOnce(api.OK)
				continue
			}
			w.goes(nothing)
			w.stops(s.state, 1)
		}
	}
}

// The answer's generation is the one that the timer has, not how often its slot was given.
func TestEndingOfALaterGeneration(t *testing.T) {
	f := room(t)
	id := adds(t, f, 5, 3)
	goOn(t, f, 0, word.Enter, word.Claim, word.Rearm, word.Reset, word.Reset)
	w := begins(t, f, api.Call{Kind: api.Stop, Id: id, Deadline: 8})
	w.goes(nothing, nothing)
	w.stops(api.Queued, 4)
	w = begins(t, f, api.Call{Kind: api.Cancel, Id: id, Deadline: 8})
	w.goes(nothing, nothing)
	w.cancels(sort{last: true}, 4)
	w.releases(4)
	if id := adds(t, f, 5, 0); id != 128 {
		t.Fatal(id)
	}
	w = begins(t, f, api.Call{Kind: api.Cancel, Id: 128})
	w.goes(nothing, nothing)
	w.cancels(sort{}, 5)
	w.releases(5)
}

// Between the look and the try the word becomes another one: it looks again, as often as that happens.

func TestCancelWhoseWordBecomesAnotherOne(t *testing.T) {
	for _, periodic := range []bool{false, true} {
		for _, event := range []int{word.Enter, word.Reset} {
			f := room(t)
			id := sort{state: api.Queued, periodic: periodic}.brings(t, f)
			w := begins(t, f, api.Call{Kind: api.Cancel, Id: id})
			w.goes(nothing, nothing)
			goOn(t, f, 0, event)
			w.goes(nothing, nothing)
			gen := uint64(1)
			if event == word.Reset {
				gen = 2
			}
			w.cancels(sort{}, gen)
			w.releases(gen)
		}
	}
}

func TestCancelThatLooksAgainAndAgain(t *testing.T) {
	f := room(t)
	id := sort{state: api.Queued, periodic: true}.brings(t, f)
	w := begins(t, f, api.Call{Kind: api.Cancel, Id: id})
	w.goes(nothing, nothing)
	gen := uint64(1)
	for range 5 {
		for _, event := range []int{word.Enter, word.Claim, word.Rearm, word.Reset} {
			goOn(t, f, 0, event)
			w.goes(nothing, nothing)
		}
		gen += 2
	}
	w.cancels(sort{}, gen)
	w.releases(gen)
}

func TestStopThatLooksAgainAndAgain(t *testing.T) {
	f := room(t)
	id := sort{state: api.Queued, periodic: true}.brings(t, f)
	w := begins(t, f, api.Call{Kind: api.Stop, Id: id})
	w.goes(nothing, nothing)
	gen := uint64(1)
	for range 5 {
		for _, event := range []int{word.Enter, word.Claim, word.Rearm, word.Reset} {
			goOn(t, f, 0, event)
			w.goes(nothing, nothing)
		}
		gen += 2
	}
	w.stops(api.Queued, gen)
}

func TestEndingWhoseTimerFiresBetween(t *testing.T) {
	// One that fires for the last time is gone.
	for _, c := range endings(64)[:1] {
		f := room(t)
		sort{state: api.InWheel}.brings(t, f)
		w := begins(t, f, c)
		w.goes(nothing, nothing)
		goOn(t, f, 0, word.Claim)
		w.goes(nothing)
		w.refusedAtOnce(api.OK)
	}
	// One that is periodic is still there.
	f := room(t)
	s := sort{state: api.InWheel, periodic: true}
	id := s.brings(t, f)
	w := begins(t, f, api.Call{Kind: api.Cancel, Id: id})
	w.goes(nothing, nothing)
	goOn(t, f, 0, word.Claim)
	w.goes(nothing, nothing)
	w.cancels(sort{}, 2)
	w.releases(2)

	f = room(t)
	id = s.brings(t, f)
	w = begins(t, f, api.Call{Kind: api.Stop, Id: id})
	w.goes(nothing, nothing)
	goOn(t, f, 0, word.Claim)
	w.goes(nothing, nothing)
	w.stops(api.Claimed, 1)
	// Stopped, it isn't there any more, once it fired.
	w = begins(t, f, api.Call{Kind: api.Cancel, Id: id})
	w.goes(nothing)
	w.refusedAtOnce(api.OK)
}

func TestEndingWhoseTimerGoesBetween(t *testing.T) {
	for _, state := range []api.State{api.Queued, api.InWheel, api.Claimed} {
		for _, c := range endings(64)[:2] {
			// Freed; and given again, of just the same sort.
			for _, again := range []bool{false, true} {
				f := room(t)
				s := sort{state: state, periodic: true}
				s.brings(t, f)
				w := begins(t, f, c)
				w.goes(nothing, nothing)
				frees(t, f, 0)
				if again {
					s.brings(t, f)
				}
				w.goes(nothing)
				w.refusedAtOnce(api.OK)
			}
		}
	}
}

// Two look at one word: one of them ends it, the other one looks again.
func TestTwoCancelsOfOneWord(t *testing.T) {
	f := room(t)
	id := adds(t, f, 5, 0)
	c := api.Call{Kind: api.Cancel, Id: id}
	w, x := beginsAs(t, f, 0, 1, c), beginsAs(t, f, 1, 2, c)
	w.goes(nothing, nothing)
	x.goes(nothing, nothing)
	w.cancels(sort{}, 1)
	x.goes(nothing)
	w.goes(becomes(0, api.Free, 1))
	x.refusedAtOnce(api.OK)
	w.goes(counts(-1))
	w.ends(api.Answer{Ok: true, Id: id, Gen: 1})
}

func TestTwoStopsOfOneWord(t *testing.T) {
	f := room(t)
	id := adds(t, f, 5, 3)
	c := api.Call{Kind: api.Stop, Id: id}
	w, x := beginsAs(t, f, 0, 1, c), beginsAs(t, f, 1, 2, c)
	w.goes(nothing, nothing)
	x.goes(nothing, nothing)
	x.stops(api.Queued, 1)
	w.goes(nothing)
	w.refusedAtOnce(api.OK)
}

// Where Release may not happen any more, nothing happens to the word.
func TestCancelWhoseWordIsAnotherOnesBehindIt(t *testing.T) {
	f := room(t)
	id := adds(t, f, 5, 0)
	w := begins(t, f, api.Call{Kind: api.Cancel, Id: id})
	w.goes(nothing, nothing)
	w.cancels(sort{}, 1)
	goOn(t, f, 0, word.Release, word.Alloc, word.Submit)
	w.goes(nothing, counts(-1))
	w.ends(api.Answer{Ok: true, Id: id, Gen: 1})
}
