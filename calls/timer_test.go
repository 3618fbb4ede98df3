package calls_test

import (
	"testing"

	"verge/api"
	"verge/floor"
	"verge/slab"
	"verge/word"
)

// sort is a timer, by what its word and its record say.
type sort struct {
	state          api.State
	periodic, last bool
}

// sorts are all that a timer may be, whose number was given, and whose slot wasn't given again.
func sorts() []sort {
	var l []sort
	for _, periodic := range []bool{false, true} {
		for _, state := range []api.State{api.Free, api.Pending, api.Queued, api.InWheel, api.Claimed, api.Cancelled, api.Done} {
			l = append(l, sort{state: state, periodic: periodic})
		}
	}
	// Just what is periodic may be the last, and just as long as nobody released it.
	for _, state := range []api.State{api.Queued, api.InWheel, api.Claimed, api.Cancelled, api.Done} {
		l = append(l, sort{state: state, periodic: true, last: true})
	}
	return l
}

// mayEnd is whether a Cancel may happen to such a timer, mayStop whether a Stop may, mayReset whether a Reset may.
func (s sort) mayEnd() bool {
	return s.state == api.Queued || s.state == api.InWheel || s.state == api.Claimed && s.periodic && !s.last
}

func (s sort) mayStop() bool {
	return s.periodic && !s.last && (s.state == api.Queued || s.state == api.InWheel || s.state == api.Claimed)
}

func (s sort) mayReset() bool { return s.mayEnd() }

// brings brings a timer of this sort, of the generation 1; the ring is as it was.
func (s sort) brings(t *testing.T, f *floor.Floor) uint64 {
	t.Helper()
	period := uint64(0)
	if s.periodic {
		period = 3
	}
	id := holds(t, f, period)
	slot := int(id % 64)
	if s.state == api.Pending {
		return id
	}
	goOn(t, f, slot, word.Submit)
	if s.last {
		goOn(t, f, slot, word.Stop)
	}
	way := map[api.State][]int{
		api.Free:      {word.Cancel, word.Release},
		api.InWheel:   {word.Enter},
		api.Claimed:   {word.Enter, word.Claim},
		api.Cancelled: {word.Cancel},
		api.Done:      {word.Enter, word.Claim, word.Finish},
	}
	goOn(t, f, slot, way[s.state]...)
	if s.state == api.Free {
		drops(t, f)
	}
	if w, _ := f.Slab().Word(slot); w != packed(s.state, w.Gen(), s.last) {
		t.Fatalf("%+v: the word %#x", s, w)
	}
	return id
}

// becomes is the change of a word of this sort into one in another state, of that generation.
func (s sort) becomes(slot int, state api.State, gen uint64) change {
	if s.last {
		return becomesLast(slot, state, gen)
	}
	return becomes(slot, state, gen)
}

// holds takes a record.
func holds(t *testing.T, f *floor.Floor, period uint64) uint64 {
	t.Helper()
	r := f.Slab().Begin(period)
	for r.Step() == slab.Working {
	}
	id, e := r.Id()
	if e != api.OK {
		t.Fatal("no record:", e)
	}
	return id
}

// frees frees the record of a timer, whatever it is.
func frees(t *testing.T, f *floor.Floor, slot int) {
	t.Helper()
	for {
		w, _ := f.Slab().Word(slot)
		switch w.State() {
		case api.Free:
			drops(t, f)
			return
		case api.Pending, api.Claimed:
			goOn(t, f, slot, word.Finish)
		case api.Queued, api.InWheel:
			goOn(t, f, slot, word.Cancel)
		default:
			goOn(t, f, slot, word.Release)
		}
	}
}

// strangers are numbers that were never given, of a floor with room for n, on which each slot was given less often
// than so many times.
func strangers(n int, times uint64) []uint64 {
	l := []uint64{0, 1, uint64(n) - 1, 62, 63, 1 << 63, 1<<63 + 64, 1<<64 - 1, 1<<64 - 64, 1 << 32}
	for slot := range 64 {
		if slot < n {
			l = append(l, times*64+uint64(slot))
		} else {
			l = append(l, 64+uint64(slot), 128+uint64(slot))
		}
	}
	return l
}
