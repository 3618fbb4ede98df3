package turn_test

import (
	"reflect"
	"testing"
	"unsafe"

	"verge/api"
	"verge/calls"
	"verge/cell"
	"verge/floor"
	"verge/ring"
	"verge/turn"
	"verge/word"
)

// small is a config with so many shards, and room for so many timers and tasks.
func small(shards, records, places int) api.Config {
	return api.Config{Shards: shards, Cap: records, Ring: places, Room: 2, Workers: 1, Clients: 1}
}

// made is a floor that may be.
func made(t *testing.T, c api.Config) *floor.Floor {
	t.Helper()
	f, e := floor.New(c)
	if f == nil || e != api.OK {
		t.Fatalf("New(%v): %v, %d", c, f, e)
	}
	return f
}

// setNow sets a floor's time: no test lives to see a floor turned as often as the last times need.
func setNow(f *floor.Floor, now uint64) {
	field := reflect.ValueOf(f).Elem().FieldByName("now")
	(*(**cell.Cell[uint64])(unsafe.Pointer(field.UnsafeAddr()))).Store(now)
}

// packed is a word that may be.
func packed(state api.State, gen uint64, last bool) word.Word {
	w, e := word.Pack(state, gen, last)
	if e != api.OK {
		panic(e)
	}
	return w
}

// view is all that a floor tells.
type view struct {
	closed              bool
	inside, busy, count int
	now                 uint64
	words               []word.Word
	numbers, periods    []uint64
	// Of each shard: how many tasks wait, whether the first of them is published, how many are armed, the least
	// deadline of these (0, if there is none), the wheel's time, whose the lock is (-1: nobody's), and its turns.
	waiting      []int
	ready        []bool
	armed        []int
	nexts, times []uint64
	owners       []int
	turns        []int
	pipe         []api.Firing
	logged       int
	trace        []api.Event
}

// sees is what a floor tells now.
func sees(f *floor.Floor) view {
	v := view{
		closed: f.Closed(), inside: f.Inside(), busy: f.Busy(), count: f.Slab().Count(), now: f.Now(),
		pipe: append([]api.Firing{}, f.Pipe().All()...), logged: f.Log().Len(), trace: append([]api.Event{}, f.Trace()...),
	}
	for slot := range f.Config().Cap {
		w, _ := f.Slab().Word(slot)
		id, _ := f.Number(slot)
		v.words = append(v.words, w)
		v.numbers = append(v.numbers, id)
		v.periods = append(v.periods, f.Slab().Period(slot))
	}
	for i := range f.Config().Shards {
		s := f.Shard(i)
		next, _ := s.Next()
		owner, owned := s.Lock().Owner()
		if !owned {
			owner = -1
		}
		v.waiting = append(v.waiting, s.Waiting())
		v.ready = append(v.ready, s.Ready())
		v.armed = append(v.armed, s.Armed())
		v.nexts = append(v.nexts, next)
		v.times = append(v.times, s.Now())
		v.owners = append(v.owners, owner)
		v.turns = append(v.turns, s.Lock().Turns())
	}
	return v
}

// same holds what a floor tells against what it must.
func same(t *testing.T, got, want view) {
	t.Helper()
	if !reflect.DeepEqual(got, want) {
		t.Fatalf("the floor:\n%+v\nwant:\n%+v", got, want)
	}
}

// work is a turn under test.
type work struct {
	t          *testing.T
	f          *floor.Floor
	k          *turn.Work
	thread, no int
	steps      int
}

// change is what a step changes of what a floor tells.
type change func(w *work, v *view)

// begins is a turn of the thread 3, with the number 7; that it begins is noted, and nothing else happens.
func begins(t *testing.T, f *floor.Floor) *work {
	t.Helper()
	return beginsAs(t, f, 3, 7)
}

func beginsAs(t *testing.T, f *floor.Floor, thread, no int) *work {
	t.Helper()
	want := sees(f)
	k, e := turn.Begin(f, thread, no)
	if k == nil || e != api.OK {
		t.Fatalf("Begin(%d, %d): %v, %d", thread, no, k, e)
	}
	w := &work{t: t, f: f, k: k, thread: thread, no: no}
	notes(api.Event{Kind: api.EvCall})(w, &want)
	same(t, sees(f), want)
	w.isOpen(true)
	return w
}

// isOpen is what a turn tells that isn't done; to ask changes nothing.
func (w *work) isOpen(may bool) {
	w.t.Helper()
	for range 2 {
		if w.k.May() != may || w.k.Done() {
			w.t.Fatalf("behind %d steps: May %t, Done %t, of one that isn't done", w.steps, w.k.May(), w.k.Done())
		}
		if a, e := w.k.Answer(); !reflect.DeepEqual(a, api.Answer{}) || e != api.ErrBusy {
			w.t.Fatalf("behind %d steps: Answer: %v, %d, of one that isn't done", w.steps, a, e)
		}
	}
}

// goes makes a step for each change, which must change just that.
func (w *work) goes(l ...change) {
	w.t.Helper()
	for i, c := range l {
		want := sees(w.f)
		w.isOpen(true)
		if !w.k.Step() {
			w.t.Fatalf("behind %d steps: step %d isn't made", w.steps, i)
		}
		w.steps++
		c(w, &want)
		if got := sees(w.f); !reflect.DeepEqual(got, want) {
			w.t.Fatalf("behind %d steps, %d of them these:\n%+v\nwant:\n%+v", w.steps, i+1, got, want)
		}
	}
}

// waits is a turn whose next step may not be made: none is, and nothing changes.
func (w *work) waits() {
	w.t.Helper()
	was := sees(w.f)
	for range 3 {
		w.isOpen(false)
		if w.k.Step() {
			w.t.Fatalf("behind %d steps: a step is made that may not be", w.steps)
		}
	}
	same(w.t, sees(w.f), was)
}

// ends makes the last step, and asks for the answer.
func (w *work) ends(a api.Answer) {
	w.t.Helper()
	w.goes(notes(api.Event{Kind: api.EvAnswer, Err: a.Err}))
	w.isDone(a)
}

// succeeds makes the steps behind the last shard.
func (w *work) succeeds() {
	w.t.Helper()
	w.goes(nothing, leaves)
	w.ends(api.Answer{Ok: true})
}

// isDone is what a turn tells that is done; no step is made any more.
func (w *work) isDone(want api.Answer) {
	w.t.Helper()
	was := sees(w.f)
	for range 3 {
		if w.k.May() || !w.k.Done() || w.k.Step() {
			w.t.Fatalf("May %t, Done %t, of one that is done", w.k.May(), w.k.Done())
		}
		if a, e := w.k.Answer(); !reflect.DeepEqual(a, want) || e != api.OK {
			w.t.Fatalf("Answer: %v, %d, want %v", a, e, want)
		}
	}
	same(w.t, sees(w.f), was)
}

// starts makes the lines 1 to 3.
func (w *work) starts(now uint64) {
	w.t.Helper()
	w.goes(enters, nothing, ticks(now))
}

// passes goes through a shard of which nothing is to be told.
func (w *work) passes(shard int) {
	w.t.Helper()
	w.goes(locks(shard), nothing, advances(shard, 0), unlocks(shard))
}

// all is what several changes do.
func all(l ...change) change {
	return func(w *work, v *view) {
		for _, c := range l {
			c(w, v)
		}
	}
}

// nothing is what a step changes that changes nothing.
func nothing(*work, *view) {}

// enters and leaves are one more inside, and one less.
func enters(_ *work, v *view) { v.inside++ }
func leaves(_ *work, v *view) { v.inside-- }

// ticks is a time that went on.
func ticks(now uint64) change {
	return all(
		func(_ *work, v *view) { v.now++ },
		notes(api.Event{Kind: api.EvTick, Tick: now}),
	)
}

// locks and unlocks are a shard's lock that is the turn's, and that is nobody's.
func locks(shard int) change {
	return func(w *work, v *view) {
		v.owners[shard] = w.thread
		v.turns[shard]++
	}
}

func unlocks(shard int) change {
	return func(_ *work, v *view) { v.owners[shard] = -1 }
}

// pops is a task that is popped; behind it one is published, or none.
func pops(shard int, ready bool) change {
	return func(_ *work, v *view) {
		v.waiting[shard]--
		v.ready[shard] = ready
	}
}

// becomes is another word of a slot.
func becomes(slot int, w word.Word) change {
	return func(_ *work, v *view) { v.words[slot] = w }
}

// arms is a timer's generation in a shard's wheel, at a deadline.
func arms(shard int, id, gen, deadline uint64) change {
	return all(
		func(_ *work, v *view) {
			v.armed[shard]++
			if next := v.nexts[shard]; next == 0 || deadline < next {
				v.nexts[shard] = deadline
			}
		},
		notes(api.Event{Kind: api.EvArm, Id: id, Gen: gen, Deadline: deadline}),
	)
}

// advances is a shard's time that went on: so many are due; next are the deadlines that are armed behind that, if any.
func advances(shard, due int, next ...uint64) change {
	return func(_ *work, v *view) {
		v.times[shard]++
		v.armed[shard] -= due
		v.nexts[shard] = 0
		for _, d := range next {
			v.nexts[shard] = d
		}
	}
}

// fires is what Claim notes.
func fires(id, gen, deadline, tick uint64) change {
	return notes(api.Event{Kind: api.EvFire, Id: id, Gen: gen, Deadline: deadline, Tick: tick})
}

// puts is a firing in the pipe.
func puts(id, gen, deadline, tick uint64) change {
	return func(_ *work, v *view) {
		v.pipe = append(v.pipe, api.Firing{Id: id, Gen: gen, Deadline: deadline, Tick: tick})
	}
}

// drops is a count that is one less.
func drops(_ *work, v *view) { v.count-- }

// notes is an event of the turn.
func notes(e api.Event) change {
	return func(w *work, v *view) {
		e.Thread, e.Call, e.What = w.thread, w.no, api.Tick
		v.trace = append(v.trace, e)
	}
}

// refuses is a refusal of the turn.
func refuses(e api.Errno) change { return notes(api.Event{Kind: api.EvRefuse, Err: e}) }

// run is the answer of a work of layer 16 that goes alone.
func run(t *testing.T, f *floor.Floor, c api.Call) api.Answer {
	t.Helper()
	k, e := calls.Begin(f, 0, 0, c)
	if k == nil || e != api.OK {
		t.Fatalf("Begin(%v): %v, %d", c, k, e)
	}
	for range 1000 {
		if !k.Step() {
			break
		}
	}
	a, e := k.Answer()
	if e != api.OK {
		t.Fatalf("%v: %d", c, e)
	}
	return a
}

// ok is a work of layer 16 that goes alone, and must be answered Ok: the timer's generation then.
func ok(t *testing.T, f *floor.Floor, c api.Call) uint64 {
	t.Helper()
	a := run(t, f, c)
	if !a.Ok || a.Err != api.OK {
		t.Fatalf("%v: %v", c, a)
	}
	return a.Gen
}

// adds brings a timer, whose task is published; a period of 0 is none.
func adds(t *testing.T, f *floor.Floor, deadline, period uint64) uint64 {
	t.Helper()
	c := api.Call{Kind: api.Schedule, Deadline: deadline}
	if period > 0 {
		c.Kind, c.Period = api.Periodic, period
	}
	a := run(t, f, c)
	if !a.Ok || a.Err != api.OK {
		t.Fatalf("%v: %v", c, a)
	}
	return a.Id
}

// tick is a turn that goes alone, and must be answered Ok.
func tick(t *testing.T, f *floor.Floor) {
	t.Helper()
	k, e := turn.Begin(f, 5, 0)
	if k == nil || e != api.OK {
		t.Fatal(e)
	}
	for range 100000 {
		if !k.Step() {
			break
		}
	}
	if a, e := k.Answer(); !a.Ok || a.Err != api.OK || e != api.OK {
		t.Fatalf("a turn alone: %v, %d", a, e)
	}
}

// place is a place in a shard's ring that is held.
func place(t *testing.T, f *floor.Floor, shard int) *ring.Ticket[api.Task] {
	t.Helper()
	k := f.Shard(shard).Begin()
	for range 3 {
		k.Step()
	}
	if k.Step() != ring.Held {
		t.Fatal("no place in the ring")
	}
	return k
}

// fills publishes a task in a place.
func fills(t *testing.T, k *ring.Ticket[api.Task], x api.Task) {
	t.Helper()
	if e := k.Fill(x); e != api.OK {
		t.Fatal("Fill:", e)
	}
}

// goOn lets events happen to a slot's word, one behind the other.
func goOn(t *testing.T, f *floor.Floor, slot int, events ...int) {
	t.Helper()
	for _, event := range events {
		w, _ := f.Slab().Word(slot)
		if _, e := f.Slab().Try(slot, w, event); e != api.OK {
			t.Fatalf("slot %d, word %#x, event %d: %d", slot, w, event, e)
		}
	}
}
