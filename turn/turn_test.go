package turn_test

import (
	"math"
	"reflect"
	"testing"

	"verge/api"
	"verge/floor"
	"verge/turn"
)

// P17.1: Begin

func TestBeginOfNilFloor(t *testing.T) {
	// Of both errors at once the first one that the chapter names is answered.
	for _, thread := range []int{0, 3, math.MaxInt, -1, math.MinInt} {
		if k, e := turn.Begin(nil, thread, 1); k != nil || e != api.ErrNone {
			t.Errorf("thread %d: %v, %d", thread, k, e)
		}
	}
}

func TestBeginOfAThreadBelow0(t *testing.T) {
	for _, closed := range []bool{false, true} {
		f := made(t, small(2, 2, 2))
		adds(t, f, 5, 0)
		if closed {
			f.Shut()
		}
		was := sees(f)
		for _, thread := range []int{-1, -2, -3, math.MinInt} {
			for _, no := range []int{-1, 0, 7} {
				if k, e := turn.Begin(f, thread, no); k != nil || e != api.ErrInvalid {
					t.Errorf("thread %d: %v, %d", thread, k, e)
				}
				same(t, sees(f), was)
			}
		}
	}
}

// The thread and the number stand in all that a turn notes, whatever they are.
func TestThreadsAndNumbers(t *testing.T) {
	for _, thread := range []int{0, 1, 8, 9, math.MaxInt} {
		for _, no := range []int{0, 1, 2, -1, math.MinInt, math.MaxInt} {
			f := made(t, small(1, 1, 1))
			adds(t, f, 1, math.MaxUint64-1)
			ahead := len(f.Trace())
			w := beginsAs(t, f, thread, no)
			for w.k.Step() {
			}
			l := f.Trace()[ahead:]
			if len(l) != 6 {
				t.Fatal(l)
			}
			for i, e := range l {
				if e.Thread != thread || e.Call != no || e.What != api.Tick {
					t.Errorf("event %d: %v", i, e)
				}
			}
		}
	}
}

// P17.1: the lines outside of the shards

// With nothing to be done each shard is gone through by four steps, in order.
func TestNothingToBeDone(t *testing.T) {
	for shards := 1; shards <= 4; shards++ {
		f := made(t, small(shards, 1, 1))
		for now := uint64(1); now < 70; now++ {
			w := begins(t, f)
			w.starts(now)
			for shard := range shards {
				w.passes(shard)
			}
			w.succeeds()
			if w.steps != 6+4*shards {
				t.Fatal(shards, w.steps)
			}
		}
	}
}

// The chapter's example, step by step, of a pipe that has room and of one that hasn't.
func TestExample(t *testing.T) {
	for ahead := range 3 {
		c := small(1, 1, 1)
		c.Room = 1
		f := made(t, c)
		for range ahead {
			f.Pipe().Put(api.Firing{Id: 9})
		}
		if id := adds(t, f, 1, 0); id != 64 {
			t.Fatal(id)
		}
		was := len(f.Trace())
		w := begins(t, f)
		w.starts(1)
		w.goes(
			locks(0),
			nothing,
			pops(0, false),
			nothing,
			all(becomes(0, packed(api.InWheel, 1, false)), arms(0, 64, 1, 1)),
			advances(0, 1),
			nothing,
			all(becomes(0, packed(api.Claimed, 1, false)), fires(64, 1, 1, 1)),
			puts(64, 1, 1, 1),
			nothing,
			becomes(0, packed(api.Done, 1, false)),
			becomes(0, packed(api.Free, 1, false)),
			drops,
			unlocks(0),
		)
		w.succeeds()
		if w.steps != 20 {
			t.Error(w.steps)
		}
		told := []api.Event{
			{Kind: api.EvCall},
			{Kind: api.EvTick, Tick: 1},
			{Kind: api.EvArm, Id: 64, Gen: 1, Deadline: 1},
			{Kind: api.EvFire, Id: 64, Gen: 1, Deadline: 1, Tick: 1},
			{Kind: api.EvAnswer},
		}
		for i := range told {
			told[i].Thread, told[i].Call, told[i].What = 3, 7, api.Tick
		}
		if got := f.Trace()[was:]; !reflect.DeepEqual(got, told) {
			t.Errorf("%v, want %v", got, told)
		}
		if l := f.Pipe().All(); len(l) != ahead+1 || l[ahead] != (api.Firing{Id: 64, Gen: 1, Deadline: 1, Tick: 1}) {
			t.Error(l)
		}
	}
}

// refusedAsClosed goes the way of a turn that came too late, from where it is asked on.
func (w *work) refusedAsClosed() {
	w.t.Helper()
	w.goes(refuses(api.ErrClosed), leaves)
	w.ends(api.Answer{Err: api.ErrClosed})
}

func TestClosedFloor(t *testing.T) {
	f := made(t, small(2, 2, 2))
	adds(t, f, 1, 0)
	f.Shut()
	w := begins(t, f)
	w.goes(enters)
	w.refusedAsClosed()
	if f.Now() != 0 || w.steps != 4 {
		t.Error(f.Now(), w.steps)
	}
}

// It is refused, too, when the floor is closed between its beginning, or its first step, and the look; behind the look
// it goes on.
func TestFloorThatIsClosedMeanwhile(t *testing.T) {
	for ahead := range 4 {
		f := made(t, small(1, 1, 1))
		w := begins(t, f)
		if ahead == 0 {
			f.Shut()
		}
		w.goes(enters)
		if ahead == 1 {
			f.Shut()
		}
		if ahead < 2 {
			w.refusedAsClosed()
			continue
		}
		w.goes(nothing)
		if ahead == 2 {
			f.Shut()
		}
		w.goes(ticks(1))
		f.Shut()
		w.passes(0)
		w.succeeds()
	}
}

// A floor that is closed and whose time is over refuses a turn as closed.
func TestTimeThatIsOver(t *testing.T) {
	for _, closed := range []bool{false, true} {
		f := made(t, small(2, 2, 2))
		adds(t, f, 1, 0)
		setNow(f, math.MaxUint64)
		if closed {
			f.Shut()
		}
		w := begins(t, f)
		w.goes(enters)
		if closed {
			w.refusedAsClosed()
			continue
		}
		w.goes(nothing, refuses(api.ErrOver), leaves)
		w.ends(api.Answer{Err: api.ErrOver})
		if f.Now() != math.MaxUint64 || w.steps != 5 {
			t.Error(f.Now(), w.steps)
		}
	}
}

// The last tick that there is, and the one ahead of it, are as all others.
func TestLastTick(t *testing.T) {
	for _, now := range []uint64{math.MaxUint64 - 1, math.MaxUint64} {
		f := made(t, small(1, 1, 1))
		setNow(f, now-1)
		w := begins(t, f)
		w.starts(now)
		w.passes(0)
		w.succeeds()
	}
}

// P17.1: several shards, and their locks

// full is a floor of so many shards, each with room for three timers, of which each shard has two that are due at 1.
func full(t *testing.T, shards int) *floor.Floor {
	t.Helper()
	f := made(t, small(shards, 3*shards, 3))
	for slot := range 2 * shards {
		if id := adds(t, f, 1, 0); id != uint64(64+slot) {
			t.Fatal(id)
		}
	}
	return f
}

// Each shard is gone through whole ahead of the next one, in their order.
func TestShardsInOrder(t *testing.T) {
	for shards := 1; shards <= 4; shards++ {
		f := full(t, shards)
		w := begins(t, f)
		w.starts(1)
		for shard := range shards {
			w.goes(locks(shard), nothing)
			for i, slot := range []int{shard, shard + shards} {
				w.goes(
					pops(shard, i == 0),
					nothing,
					all(becomes(slot, packed(api.InWheel, 1, false)), arms(shard, uint64(64+slot), 1, 1)),
				)
			}
			w.goes(advances(shard, 2))
			for _, slot := range []int{shard, shard + shards} {
				w.firesOnce(slot, uint64(64+slot), 1, 1)
			}
			w.goes(unlocks(shard))
		}
		w.succeeds()
	}
}

// A lock that another one has, or another turn of the same thread: that step, and no other one, may not be made.
func TestLockThatAnotherOneHas(t *testing.T) {
	const shards = 3
	for waited := range shards {
		for _, who := range []int{0, 3, 8} {
			f := made(t, small(shards, 1, 1))
			if !f.Shard(waited).Lock().Try(who) {
				t.Fatal("Try")
			}
			w := begins(t, f)
			w.starts(1)
			for shard := range shards {
				if shard == waited {
					w.waits()
					if e := f.Shard(shard).Lock().Leave(who); e != api.OK {
						t.Fatal(e)
					}
				}
				w.passes(shard)
			}
			w.succeeds()
		}
	}
}

// A lock that somebody takes behind it, or that he leaves ahead of it, plays no part.
func TestLocksThatPlayNoPart(t *testing.T) {
	f := made(t, small(2, 1, 1))
	f.Shard(0).Lock().Try(5)
	f.Shard(1).Lock().Try(5)
	w := begins(t, f)
	w.goes(enters)
	f.Shard(0).Lock().Leave(5)
	w.goes(nothing, ticks(1))
	w.passes(0)
	f.Shard(0).Lock().Try(6)
	w.waits()
	f.Shard(1).Lock().Leave(5)
	w.passes(1)
	w.succeeds()
}

// The turn itself keeps others out, from the lock's step on till it leaves it.
func TestTurnHasTheLock(t *testing.T) {
	f := made(t, small(1, 1, 1))
	w, x := beginsAs(t, f, 3, 1), beginsAs(t, f, 4, 2)
	w.starts(1)
	x.starts(2)
	w.goes(locks(0))
	x.waits()
	w.goes(nothing, advances(0, 0))
	x.waits()
	w.goes(unlocks(0))
	x.passes(0)
	w.succeeds()
	x.succeeds()
}

// P17.1 and P17.2: of a nil turn

func TestNilTurn(t *testing.T) {
	var k *turn.Work
	for range 2 {
		if k.May() || k.Step() || !k.Done() {
			t.Error(k.May(), k.Step(), k.Done())
		}
		if a, e := k.Answer(); !reflect.DeepEqual(a, api.Answer{}) || e != api.ErrNone {
			t.Error(a, e)
		}
	}
}

// Turns of two floors share nothing.
func TestFloorsAreApart(t *testing.T) {
	var l []*floor.Floor
	for range 2 {
		f := made(t, small(1, 1, 1))
		adds(t, f, 1, 0)
		l = append(l, f)
	}
	was := sees(l[1])
	tick(t, l[0])
	same(t, sees(l[1]), was)
	if l[0].Now() != 1 || l[0].Pipe().Len() != 1 {
		t.Error(l[0].Now(), l[0].Pipe().Len())
	}
}
