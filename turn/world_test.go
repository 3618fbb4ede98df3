package turn_test

import (
	"reflect"
	"testing"

	"verge/api"
	"verge/calls"
	"verge/firing"
	"verge/floor"
	"verge/turn"
)

// gen is a timer's generation.
type gen struct{ id, gen uint64 }

// call is a work of layer 16, on the floor and on its twin, and how it is told.
type call struct {
	k, by *calls.Work
}

// driver is a turn, its twin, and what was to be seen of it.
type driver struct {
	k    *turn.Work
	twin *twin
	// published are the generations whose tasks were published when the turn had the lock that it has.
	published []gen
	// due are the deadlines of those that were answered ahead of the turn's beginning.
	due   map[gen]uint64
	alone bool
}

// world is a floor, its twin, and the works and turns on them.
type world struct {
	t     *testing.T
	f, by *floor.Floor
	// calls and turns that aren't done, by their threads, and how many of both began.
	calls map[int]*call
	turns map[int]*driver
	begun int
	// added are the generations that works brought or reset that are done, with the deadlines that they asked for.
	added map[gen]uint64
	// seen is how much of the trace was looked through; armed and fired what stands there of each generation.
	seen   int
	armed  map[gen]uint64
	fired  map[gen]bool
	gone   map[gen]bool
	last   map[int]uint64
	events map[string]int
}

func newWorld(t *testing.T, c api.Config) *world {
	t.Helper()
	return &world{
		t: t, f: made(t, c), by: made(t, c),
		calls: map[int]*call{}, turns: map[int]*driver{},
		added: map[gen]uint64{}, armed: map[gen]uint64{}, fired: map[gen]bool{}, gone: map[gen]bool{},
		last: map[int]uint64{}, events: map[string]int{},
	}
}

// call begins a work of a thread, here and there.
func (b *world) call(thread int, c api.Call) {
	b.t.Helper()
	b.begun++
	k, e := calls.Begin(b.f, thread, b.begun, c)
	by, g := calls.Begin(b.by, thread, b.begun, c)
	if k == nil || by == nil || e != api.OK || g != api.OK {
		b.t.Fatalf("Begin(%v): %v, %d", c, k, e)
	}
	b.calls[thread] = &call{k, by}
}

// turn begins a turn of a thread, here and there.
func (b *world) turn(thread int) {
	b.t.Helper()
	b.begun++
	k, e := turn.Begin(b.f, thread, b.begun)
	if k == nil || e != api.OK {
		b.t.Fatalf("Begin: %v, %d", k, e)
	}
	d := &driver{k: k, twin: twinOf(b.by, thread, b.begun), due: map[gen]uint64{}, alone: len(b.turns) == 0}
	for g, deadline := range b.added {
		d.due[g] = deadline
	}
	for _, other := range b.turns {
		other.alone = false
	}
	b.turns[thread] = d
}

// may is whether a thread may go on.
func (b *world) may(thread int) bool {
	if c := b.calls[thread]; c != nil {
		return c.k.May()
	}
	d := b.turns[thread]
	if d == nil {
		return false
	}
	if d.k.May() != d.twin.may() || d.k.Done() {
		b.t.Fatalf("May: %t, Done: %t; the twin is at %q", d.k.May(), d.k.Done(), d.twin.line)
	}
	return d.k.May()
}

// step lets a thread make its next step, here and there, if it may be made.
func (b *world) step(thread int) {
	if c := b.calls[thread]; c != nil {
		b.stepCall(thread, c)
	} else if d := b.turns[thread]; d != nil {
		b.stepTurn(thread, d)
	}
	b.looksThrough()
}

func (b *world) stepCall(thread int, c *call) {
	if !c.k.Step() || !c.by.Step() || c.k.Done() != c.by.Done() {
		b.t.Fatalf("%v: no step", c.k.Call())
	}
	if !c.k.Done() {
		return
	}
	delete(b.calls, thread)
	a, _ := c.k.Answer()
	if by, _ := c.by.Answer(); !reflect.DeepEqual(a, by) {
		b.t.Fatalf("%v: %v, want %v", c.k.Call(), a, by)
	}
	kind := c.k.Call().Kind
	if a.Ok && (kind == api.Schedule || kind == api.Periodic || kind == api.Reset) {
		b.added[gen{a.Id, a.Gen}] = c.k.Call().Deadline
	}
}

func (b *world) stepTurn(thread int, d *driver) {
	may, line, shard := d.twin.may(), d.twin.line, d.twin.shard
	if d.k.May() != may || d.k.Step() != may || d.twin.step() != may {
		b.t.Fatalf("at %q: May: %t, want %t", line, d.k.May(), may)
	}
	if !may {
		b.events["waits at "+line]++
		return
	}
	b.events[line]++
	b.events[line+d.twin.line]++
	switch line {
	case "a":
		d.published = b.waits(shard)
	case "f":
		b.tookIn(d)
	}
	b.told(thread, d)
}

// told holds what a turn tells behind a step against what its twin does.
func (b *world) told(thread int, d *driver) {
	a, e := d.k.Answer()
	if d.twin.line != "" {
		if d.k.Done() || e != api.ErrBusy || !reflect.DeepEqual(a, api.Answer{}) {
			b.t.Fatalf("at %q: Done: %t, %v, %d", d.twin.line, d.k.Done(), a, e)
		}
		return
	}
	delete(b.turns, thread)
	if !d.k.Done() || e != api.OK || !reflect.DeepEqual(a, d.twin.answer) {
		b.t.Fatalf("at the end: Done: %t, %v, %d, want %v", d.k.Done(), a, e, d.twin.answer)
	}
	b.looksThrough()
	if a.Ok && d.alone {
		b.nothingIsLate(d)
	}
}

// waits are the generations of timers of a shard's whose works are done, and that weren't armed by now.
func (b *world) waits(shard int) []gen {
	var l []gen
	for g := range b.added {
		if _, armed := b.armed[g]; !armed && b.f.Home(int(g.id%64)) == b.f.Shard(shard) {
			l = append(l, g)
		}
	}
	return l
}

// tookIn asks that what was published when a turn had a shard's lock is armed, or gone, when the shard's time goes on.
func (b *world) tookIn(d *driver) {
	for _, g := range d.published {
		if _, armed := b.armed[g]; armed {
			b.events["armed"]++
			continue
		}
		b.events["gone"]++
		w, _ := b.f.Slab().Word(int(g.id % 64))
		if b.f.Slab().Mine(g.id) && w.Gen() == g.gen && (w.State() == api.Queued || w.State() == api.InWheel) {
			b.t.Fatalf("%v is neither armed nor gone: %#x", g, w)
		}
	}
}

// nothingIsLate asks that what was answered ahead of a turn has fired behind it, if that was to be, or is gone.
func (b *world) nothingIsLate(d *driver) {
	for g, deadline := range d.due {
		if deadline > b.f.Now() || b.fired[g] || b.gone[g] || b.gone[gen{g.id, g.gen + 1}] {
			continue
		}
		b.t.Fatalf("%v, due at %d, hasn't fired at %d", g, deadline, b.f.Now())
	}
}

// looksThrough looks through what was noted since it last did, while the floor is as it was then.
func (b *world) looksThrough() {
	trace := b.f.Trace()
	for _, e := range trace[b.seen:] {
		g := gen{e.Id, e.Gen}
		switch e.Kind {
		case api.EvArm:
			if _, armed := b.armed[g]; armed || e.Deadline <= b.f.Home(int(e.Id%64)).Now() {
				b.t.Fatalf("%v: armed twice, or too late", e)
			}
			b.armed[g] = e.Deadline
		case api.EvFire:
			b.firesOnTime(e, g)
		case api.EvCancel:
			b.gone[g] = true
		case api.EvReset:
			// It is gone as what it was; the next one may be gone, too, later.
			b.gone[gen{e.Id, e.Gen - 1}] = true
		}
	}
	b.seen = len(trace)
}

// firesOnTime asks all that holds of a firing, at the step at which it is noted.
func (b *world) firesOnTime(e api.Event, g gen) {
	shard := int(e.Id%64) % b.f.Config().Shards
	if e.Tick != b.f.Now() || e.Deadline != b.f.Shard(shard).Now() || e.Deadline > e.Tick {
		b.t.Fatalf("%v: not on time: the floor's is %d, the shard's %d", e, b.f.Now(), b.f.Shard(shard).Now())
	}
	if len(b.turns) == 1 && e.Deadline != e.Tick && b.turns[e.Thread].alone {
		b.t.Fatalf("%v: late", e)
	}
	if armed, ok := b.armed[g]; !ok || armed != e.Deadline {
		b.t.Fatalf("%v: armed at %d", e, armed)
	}
	if b.fired[g] || b.gone[g] {
		b.t.Fatalf("%v: it fired already, or is gone", e)
	}
	if e.Deadline < b.last[shard] {
		b.t.Fatalf("%v: fired behind one at %d", e, b.last[shard])
	}
	b.fired[g], b.last[shard] = true, e.Deadline
}

// same holds the floor against its twin.
func (b *world) same() {
	same(b.t, sees(b.f), sees(b.by))
}

// ended holds what must be when all threads are done.
func (b *world) ended() {
	b.t.Helper()
	b.same()
	if b.f.Inside() != 0 {
		b.t.Fatal("inside:", b.f.Inside())
	}
	for i := range b.f.Config().Shards {
		if who, owned := b.f.Shard(i).Lock().Owner(); owned {
			b.t.Fatalf("the lock of %d is still %d's", i, who)
		}
	}
	l := b.f.Pipe().All()
	if faults := firing.Faults(l); len(faults) > 0 || len(l) != len(b.fired) {
		b.t.Fatalf("%d fired, in the pipe are %d, with the faults %v", len(b.fired), len(l), faults)
	}
	b.pipeIsTheTrace(l)
	b.countIsTheWords()
}

// pipeIsTheTrace asks that of each firing that was noted the pipe has the same, in the order of each shard.
func (b *world) pipeIsTheTrace(l []api.Firing) {
	b.t.Helper()
	of := func(l []api.Firing, shard int) []api.Firing {
		some := []api.Firing{}
		for _, x := range l {
			if int(x.Id%64)%b.f.Config().Shards == shard {
				some = append(some, x)
			}
		}
		return some
	}
	var told []api.Firing
	for _, e := range b.f.Trace() {
		if e.Kind == api.EvFire {
			told = append(told, api.Firing{Id: e.Id, Gen: e.Gen, Deadline: e.Deadline, Tick: e.Tick})
		}
	}
	for shard := range b.f.Config().Shards {
		if got, want := of(l, shard), of(told, shard); !reflect.DeepEqual(got, want) {
			b.t.Fatalf("in the pipe, of the shard %d: %v, want %v", shard, got, want)
		}
	}
}

// countIsTheWords asks that the slab's count is how many records aren't free.
func (b *world) countIsTheWords() {
	b.t.Helper()
	n := 0
	for slot := range b.f.Config().Cap {
		if w, _ := b.f.Slab().Word(slot); w.State() != api.Free {
			n++
		}
	}
	if n != b.f.Slab().Count() {
		b.t.Fatalf("%d records aren't free, the count is %d", n, b.f.Slab().Count())
	}
}
