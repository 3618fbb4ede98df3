package calls_test

import (
	"reflect"
	"testing"

	"verge/api"
	"verge/calls"
	"verge/floor"
	"verge/word"
)

// marks is what a floor tells that a step may change, in short.
type marks struct {
	words         [8]word.Word
	waiting       [4]int
	count, inside int
}

// marksOf is what a floor tells now.
func marksOf(f *floor.Floor) marks {
	m := marks{count: f.Slab().Count(), inside: f.Inside()}
	for slot := range f.Config().Cap {
		m.words[slot], _ = f.Slab().Word(slot)
	}
	for i := range f.Config().Shards {
		m.waiting[i] = f.Shard(i).Waiting()
	}
	return m
}

// pair is a work, its twin, and what its steps changed by now, all in all.
type pair struct {
	k       *calls.Work
	twin    *twin
	words   map[int][]word.Word
	waiting int
	count   int
	inside  int
}

// world is a floor, its twin, and the works on them.
type world struct {
	t      *testing.T
	f, by  *floor.Floor
	open   map[int]*pair
	all    []*pair
	events map[string]int
}

func newWorld(t *testing.T, c api.Config) *world {
	t.Helper()
	return &world{t: t, f: made(t, c), by: made(t, c), open: map[int]*pair{}, events: map[string]int{}}
}

// both does something on the floor and on its twin.
func (b *world) both(do func(f *floor.Floor)) {
	do(b.f)
	do(b.by)
}

// begin begins a work of a thread, here and there.
func (b *world) begin(thread int, c api.Call) *pair {
	b.t.Helper()
	no := len(b.all) + 1
	k, e := calls.Begin(b.f, thread, no, c)
	if k == nil || e != api.OK {
		b.t.Fatalf("Begin(%v): %v, %d", c, k, e)
	}
	p := &pair{k: k, twin: twinOf(b.by, thread, no, c), words: map[int][]word.Word{}}
	b.open[thread] = p
	b.all = append(b.all, p)
	return p
}

// step makes a work's step, here and there; if it is done, it is looked through.
func (b *world) step(thread int) {
	b.t.Helper()
	p := b.open[thread]
	was := marksOf(b.f)
	if p.k.Done() || !p.k.May() || !p.k.Step() || !p.twin.step() {
		b.t.Fatalf("%v: no step; the twin is at %q", p.twin.call, p.twin.line)
	}
	p.adds(was, marksOf(b.f))
	if p.k.Done() != (p.twin.line == "") {
		b.t.Fatalf("%v: Done: %t; the twin is at %q", p.twin.call, p.k.Done(), p.twin.line)
	}
	if p.k.Done() {
		delete(b.open, thread)
		b.ended(p)
	}
}

// adds puts what a step changed to what was changed ahead of it.
func (p *pair) adds(was, is marks) {
	for slot, w := range is.words {
		if w != was.words[slot] {
			p.words[slot] = append(p.words[slot], was.words[slot], w)
		}
	}
	for i, n := range is.waiting {
		p.waiting += n - was.waiting[i]
	}
	p.count += is.count - was.count
	p.inside += is.inside - was.inside
}

// ended looks at a work that is done: its answer, and what it changed.
func (b *world) ended(p *pair) {
	b.t.Helper()
	a, e := p.k.Answer()
	if e != api.OK || !reflect.DeepEqual(a, p.twin.answer) || p.k.Call() != p.twin.call {
		b.t.Fatalf("%v: %v, %d, want %v", p.k.Call(), a, e, p.twin.answer)
	}
	if p.inside != 0 {
		b.t.Fatalf("%v: %d are inside behind it", p.k.Call(), p.inside)
	}
	b.events[told(p.k.Call().Kind, a)]++
	if !a.Ok {
		b.refused(p, a)
	}
}

// told is an answer in a word.
func told(kind int, a api.Answer) string {
	names := map[int]string{api.Schedule: "Schedule", api.Periodic: "Periodic", api.Reset: "Reset", api.Cancel: "Cancel", api.Stop: "Stop"}
	errs := map[api.Errno]string{api.OK: "no", api.ErrInvalid: "invalid", api.ErrFull: "full", api.ErrClosed: "closed"}
	if a.Ok {
		return names[kind] + " ok"
	}
	return names[kind] + " " + errs[a.Err]
}

// refused is what a work that was refused may have changed: nothing, but what it had taken for itself.
func (b *world) refused(p *pair, a api.Answer) {
	b.t.Helper()
	c := p.k.Call()
	if a.Id != 0 || a.Gen != 0 || a.Left != nil || p.count != 0 {
		b.t.Fatalf("%v: %v; the count is %d more", c, a, p.count)
	}
	switch c.Kind {
	case api.Schedule, api.Periodic:
		// The record that it gave back is as free as it was.
		for slot, l := range p.words {
			if len(p.words) > 1 || len(l) != 4 || l[0].State() != api.Free || l[1] != l[2] || l[3].State() != api.Free {
				b.t.Fatalf("%v: slot %d: %#x", c, slot, l)
			}
		}
		if p.waiting != 0 {
			b.t.Fatalf("%v: %d more wait", c, p.waiting)
		}
	case api.Reset:
		// A place that is taken can't be given back.
		if len(p.words) > 0 || p.waiting < 0 || p.waiting > 1 || p.waiting > 0 && a.Err != api.OK {
			b.t.Fatalf("%v: %v; words: %v; %d more wait", c, a, p.words, p.waiting)
		}
	default:
		if len(p.words) > 0 || p.waiting != 0 {
			b.t.Fatalf("%v: words: %v; %d more wait", c, p.words, p.waiting)
		}
	}
}

// same holds the floor against its twin.
func (b *world) same() {
	b.t.Helper()
	same(b.t, sees(b.f), sees(b.by))
}

// take takes a task out of a shard's ring, if one is published, and lets its timer enter the wheel.
func (b *world) take(shard int) {
	b.t.Helper()
	x, e := b.f.Shard(shard).Pop()
	if y, g := b.by.Shard(shard).Pop(); x != y || e != g {
		b.t.Fatalf("Pop of %d: %v, %d, want %v, %d", shard, x, e, y, g)
	}
	if e != api.OK {
		return
	}
	if x.Slot < 0 {
		b.events["nothing popped"]++
		if x != (api.Task{Slot: -1}) {
			b.t.Fatal("a task of nothing:", x)
		}
		return
	}
	b.both(func(f *floor.Floor) {
		if w, _ := f.Slab().Word(x.Slot); f.Slab().Mine(x.Id) && w.State() == api.Queued && w.Gen() == x.Gen {
			f.Slab().Try(x.Slot, w, word.Enter)
		}
	})
}

// claim lets a slot's timer fire, if it is in the wheel.
func (b *world) claim(slot int) {
	b.both(func(f *floor.Floor) {
		w, _ := f.Slab().Word(slot)
		f.Slab().Try(slot, w, word.Claim)
	})
}

// settle lets a slot's timer that fired be armed anew, or go.
func (b *world) settle(slot int) {
	b.both(func(f *floor.Floor) {
		w, _ := f.Slab().Word(slot)
		if _, e := f.Slab().Try(slot, w, word.Rearm); e == api.OK || w.State() != api.Claimed {
			return
		}
		for _, event := range []int{word.Finish, word.Release} {
			w, _ = f.Slab().Try(slot, w, event)
		}
		f.Slab().Drop()
	})
}

// follows holds the answers of all works that are done against each other.
func (b *world) follows() {
	b.t.Helper()
	given, cancelled := map[uint64]bool{}, map[uint64]bool{}
	for _, p := range b.all {
		a, e := p.k.Answer()
		if e != api.OK || !a.Ok {
			continue
		}
		switch p.k.Call().Kind {
		case api.Schedule, api.Periodic:
			if given[a.Id] {
				b.t.Fatalf("%d is given twice", a.Id)
			}
			given[a.Id] = true
		case api.Cancel:
			if cancelled[a.Id] {
				b.t.Fatalf("%d is cancelled twice", a.Id)
			}
			cancelled[a.Id] = true
		}
	}
	b.traceFollows()
}

// traceFollows asks that behind a timer's cancelling nothing happens to it, and nothing ahead of its being added.
func (b *world) traceFollows() {
	b.t.Helper()
	added, cancelled := map[uint64]bool{}, map[uint64]bool{}
	gens := map[uint64]uint64{}
	for i, e := range b.f.Trace() {
		switch e.Kind {
		case api.EvAdd:
			if added[e.Id] {
				b.t.Fatalf("event %d: %v of one that is added", i, e)
			}
			added[e.Id] = true
		case api.EvReset, api.EvCancel, api.EvStop:
			if !added[e.Id] || cancelled[e.Id] || e.Gen < gens[e.Id] {
				b.t.Fatalf("event %d: %v of one that isn't there", i, e)
			}
			cancelled[e.Id] = e.Kind == api.EvCancel
		default:
			continue
		}
		gens[e.Id] = e.Gen
	}
}
