package calls_test

import (
	"reflect"
	"testing"

	"verge/api"
	"verge/calls"
	"verge/floor"
	"verge/word"
)

// small is a config with one shard, and room for so many timers and tasks.
func small(records, places int) api.Config {
	return api.Config{Shards: 1, Cap: records, Ring: places, Room: 1, Workers: 1, Clients: 1}
}

// made is a floor that may be.
func made(t *testing.T, c api.Config) *floor.Floor {
	t.Helper()
	f, e := floor.New(c)
	if f == nil || e != api.OK {
		t.Fatalf("New(%v): %v, %d", c, f, e)
	}
	return f
}

// packed is a word that may be.
func packed(state api.State, gen uint64, last bool) word.Word {
	w, e := word.Pack(state, gen, last)
	if e != api.OK {
		panic(e)
	}
	return w
}

// view is all that a floor tells.
type view struct {
	closed              bool
	inside, busy, count int
	now                 uint64
	words               []word.Word
	numbers, periods    []uint64
	waiting, armed      []int
	ready               []bool
	turns               []int
	queued, logged      int
	trace               []api.Event
}

// sees is what a floor tells now.
func sees(f *floor.Floor) view {
	v := view{
		closed: f.Closed(), inside: f.Inside(), busy: f.Busy(), count: f.Slab().Count(), now: f.Now(),
		queued: f.Pipe().Len(), logged: f.Log().Len(), trace: f.Trace(),
	}
	for slot := range f.Config().Cap {
		w, _ := f.Slab().Word(slot)
		id, _ := f.Number(slot)
		v.words = append(v.words, w)
		v.numbers = append(v.numbers, id)
		v.periods = append(v.periods, f.Slab().Period(slot))
	}
	for i := range f.Config().Shards {
		s := f.Shard(i)
		v.waiting = append(v.waiting, s.Waiting())
		v.ready = append(v.ready, s.Ready())
		v.armed = append(v.armed, s.Armed())
		v.turns = append(v.turns, s.Lock().Turns())
	}
	return v
}

// same holds what a floor tells against what it must.
func same(t *testing.T, got, want view) {
	t.Helper()
	if !reflect.DeepEqual(got, want) {
		t.Fatalf("the floor:\n%+v\nwant:\n%+v", got, want)
	}
}

// work is a work under test.
type work struct {
	t          *testing.T
	f          *floor.Floor
	k          *calls.Work
	thread, no int
	call       api.Call
}

// change is what a step changes of what a floor tells.
type change func(w *work, v *view)

// begins is a work of the thread 3, with the number 7; all that begins it is noted, and nothing else happens.
func begins(t *testing.T, f *floor.Floor, c api.Call) *work {
	t.Helper()
	return beginsAs(t, f, 3, 7, c)
}

func beginsAs(t *testing.T, f *floor.Floor, thread, no int, c api.Call) *work {
	t.Helper()
	want := sees(f)
	k, e := calls.Begin(f, thread, no, c)
	if k == nil || e != api.OK {
		t.Fatalf("Begin(%v): %v, %d", c, k, e)
	}
	w := &work{t: t, f: f, k: k, thread: thread, no: no, call: c}
	notes(api.Event{Kind: api.EvCall, Id: c.Id, Deadline: c.Deadline, Period: c.Period})(w, &want)
	same(t, sees(f), want)
	w.isOpen()
	return w
}

// isOpen is what a work tells that isn't done; to ask changes nothing.
func (w *work) isOpen() {
	w.t.Helper()
	for range 2 {
		if !w.k.May() || w.k.Done() {
			w.t.Fatalf("%v: May %t, Done %t, of one that isn't done", w.call, w.k.May(), w.k.Done())
		}
		if a, e := w.k.Answer(); !reflect.DeepEqual(a, api.Answer{}) || e != api.ErrBusy {
			w.t.Fatalf("%v: Answer: %v, %d, of one that isn't done", w.call, a, e)
		}
		if c := w.k.Call(); c != w.call {
			w.t.Fatalf("Call: %v, want %v", c, w.call)
		}
	}
}

// goes makes a step for each change, which must change just that.
func (w *work) goes(l ...change) {
	w.t.Helper()
	for i, c := range l {
		want := sees(w.f)
		w.isOpen()
		if !w.k.Step() {
			w.t.Fatalf("%v: step %d isn't made", w.call, i)
		}
		if c != nil {
			c(w, &want)
		}
		if got := sees(w.f); !reflect.DeepEqual(got, want) {
			w.t.Fatalf("%v: behind step %d:\n%+v\nwant:\n%+v", w.call, i, got, want)
		}
	}
}

// ends makes the last step, and asks for the answer.
func (w *work) ends(a api.Answer) {
	w.t.Helper()
	w.goes(notes(api.Event{Kind: api.EvAnswer, Id: a.Id, Gen: a.Gen, Err: a.Err}))
	w.isDone(a)
}

// isDone is what a work tells that is done; no step is made any more.
func (w *work) isDone(want api.Answer) {
	w.t.Helper()
	was := sees(w.f)
	for range 3 {
		if w.k.May() || !w.k.Done() || w.k.Step() {
			w.t.Fatalf("%v: May %t, Done %t, of one that is done", w.call, w.k.May(), w.k.Done())
		}
		if a, e := w.k.Answer(); !reflect.DeepEqual(a, want) || e != api.OK {
			w.t.Fatalf("%v: Answer: %v, %d, want %v", w.call, a, e, want)
		}
		if c := w.k.Call(); c != w.call {
			w.t.Fatalf("Call: %v, want %v", c, w.call)
		}
	}
	same(w.t, sees(w.f), was)
}

// all is what several changes do.
func all(l ...change) change {
	return func(w *work, v *view) {
		for _, c := range l {
			c(w, v)
		}
	}
}

// nothing is what a step changes that changes nothing.
func nothing(*work, *view) {}

// enters and leaves are one more inside, and one less.
func enters(_ *work, v *view) { v.inside++ }
func leaves(_ *work, v *view) { v.inside-- }

// counts is a change of the slab's count.
func counts(by int) change {
	return func(_ *work, v *view) { v.count += by }
}

// gives is a record that is held: its number, its generation and its period.
func gives(id, gen, period uint64) change {
	return func(_ *work, v *view) {
		slot := id % 64
		v.words[slot] = packed(api.Pending, gen, false)
		v.numbers[slot] = id
		v.periods[slot] = period
	}
}

// becomes is another word of a slot.
func becomes(slot int, state api.State, gen uint64) change {
	return func(_ *work, v *view) { v.words[slot] = packed(state, gen, false) }
}

// becomesLast is another word of a slot, which is the last.
func becomesLast(slot int, state api.State, gen uint64) change {
	return func(_ *work, v *view) { v.words[slot] = packed(state, gen, true) }
}

// places is a position of a shard's ring that is taken.
func places(shard int) change {
	return func(_ *work, v *view) { v.waiting[shard]++ }
}

// fills is the first position of a shard's ring, published.
func fills(shard int) change {
	return func(_ *work, v *view) { v.ready[shard] = true }
}

// notes is an event of the work.
func notes(e api.Event) change {
	return func(w *work, v *view) {
		e.Thread, e.Call, e.What = w.thread, w.no, w.call.Kind
		v.trace = append(v.trace, e)
	}
}

// refuses is a refusal of the work.
func refuses(e api.Errno) change { return notes(api.Event{Kind: api.EvRefuse, Err: e}) }

// pops takes the first task out of a shard's ring.
func pops(t *testing.T, f *floor.Floor, shard int, want api.Task) {
	t.Helper()
	if x, e := f.Shard(shard).Pop(); x != want || e != api.OK {
		t.Fatalf("Pop of %d: %v, %d, want %v", shard, x, e, want)
	}
}

// goOn lets events happen to a slot's word, one behind the other.
func goOn(t *testing.T, f *floor.Floor, slot int, events ...int) {
	t.Helper()
	for _, event := range events {
		w, _ := f.Slab().Word(slot)
		if _, e := f.Slab().Try(slot, w, event); e != api.OK {
			t.Fatalf("slot %d, word %#x, event %d: %d", slot, w, event, e)
		}
	}
}

// drops makes the slab's count one less.
func drops(t *testing.T, f *floor.Floor) {
	t.Helper()
	if e := f.Slab().Drop(); e != api.OK {
		t.Fatal("Drop:", e)
	}
}

// run is the answer of a work that goes alone.
func run(t *testing.T, f *floor.Floor, c api.Call) api.Answer {
	t.Helper()
	k, e := calls.Begin(f, 0, 0, c)
	if k == nil || e != api.OK {
		t.Fatalf("Begin(%v): %v, %d", c, k, e)
	}
	for range 1000 {
		if !k.Step() {
			break
		}
	}
	a, e := k.Answer()
	if e != api.OK {
		t.Fatalf("%v: %d", c, e)
	}
	return a
}

// adds brings a timer, whose task is taken out of its ring; a period of 0 is none.
func adds(t *testing.T, f *floor.Floor, deadline, period uint64) uint64 {
	t.Helper()
	c := api.Call{Kind: api.Schedule, Deadline: deadline}
	if period > 0 {
		c.Kind, c.Period = api.Periodic, period
	}
	a := run(t, f, c)
	if !a.Ok || a.Err != api.OK {
		t.Fatalf("%v: %v", c, a)
	}
	slot := int(a.Id % 64)
	pops(t, f, slot%f.Config().Shards, api.Task{Id: a.Id, Slot: slot, Gen: a.Gen, Deadline: deadline, Period: period})
	return a.Id
}

// stuffs fills each place of a slot's home that is free with nothing.
func stuffs(t *testing.T, f *floor.Floor, slot int) {
	t.Helper()
	for f.Home(slot).Waiting() < f.Config().Ring {
		k := f.Home(slot).Begin()
		for range 3 {
			k.Step()
		}
		if e := k.Fill(api.Task{Slot: -1}); e != api.OK {
			t.Fatal("Fill:", e)
		}
	}
}
