package calls_test

import (
	"math"
	"reflect"
	"testing"

	"verge/api"
	"verge/calls"
	"verge/floor"
)

// kinds are those of a work.
var kinds = []int{api.Schedule, api.Periodic, api.Reset, api.Cancel, api.Stop}

// others are kinds that no work is of.
var others = []int{0, api.Close, api.Tick, 8, -1, -4, math.MinInt, math.MaxInt, 1<<32 + 1, 1 << 62}

// The chapter's example.
func TestExample(t *testing.T) {
	f := made(t, small(1, 1))
	k, e := calls.Begin(f, 0, 1, api.Call{Kind: api.Schedule, Deadline: 9})
	if k == nil || e != api.OK {
		t.Fatal(k, e)
	}
	for i := range 13 {
		if k.Done() || !k.May() || !k.Step() {
			t.Fatalf("done behind %d steps", i)
		}
	}
	if !k.Done() || k.May() || k.Step() {
		t.Fatal("not done behind 13 steps")
	}
	if a, e := k.Answer(); !reflect.DeepEqual(a, api.Answer{Ok: true, Id: 64, Gen: 1}) || e != api.OK {
		t.Fatal(a, e)
	}
}

// P16.1: Begin

func TestBeginOfEachKind(t *testing.T) {
	for _, kind := range kinds {
		for _, c := range []api.Call{
			{Kind: kind},
			{Kind: kind, Id: 64, Deadline: 5, Period: 3},
			{Kind: kind, Id: math.MaxUint64, Deadline: math.MaxUint64, Period: math.MaxUint64},
		} {
			f := made(t, small(2, 2))
			begins(t, f, c)
			f.Shut()
			begins(t, f, c)
		}
	}
}

func TestBeginOfAnyThreadAndNumber(t *testing.T) {
	for _, thread := range []int{0, 1, -1, 8, math.MinInt, math.MaxInt} {
		for _, no := range []int{0, 2, -1, math.MinInt, math.MaxInt} {
			f := made(t, small(1, 1))
			w := beginsAs(t, f, thread, no, api.Call{Kind: api.Periodic, Id: 4, Deadline: 5})
			w.goes(refuses(api.ErrInvalid))
			w.ends(api.Answer{Err: api.ErrInvalid})
			for i, e := range f.Trace() {
				if e.Thread != thread || e.Call != no || e.What != api.Periodic {
					t.Errorf("event %d: %v", i, e)
				}
			}
		}
	}
}

func TestBeginOfANilFloor(t *testing.T) {
	for _, kind := range append(append([]int{}, kinds...), others...) {
		if k, e := calls.Begin(nil, 1, 1, api.Call{Kind: kind, Period: 1}); k != nil || e != api.ErrNone {
			t.Errorf("kind %d: %v, %d", kind, k, e)
		}
	}
}

func TestBeginOfAnotherKind(t *testing.T) {
	f := made(t, small(2, 2))
	adds(t, f, 5, 0)
	was := sees(f)
	for _, kind := range others {
		if k, e := calls.Begin(f, 1, 1, api.Call{Kind: kind, Id: 64, Deadline: 9, Period: 1}); k != nil || e != api.ErrInvalid {
			t.Errorf("kind %d: %v, %d", kind, k, e)
		}
		same(t, sees(f), was)
	}
}

// P16.1 and P16.2: of a nil work

func TestNilWork(t *testing.T) {
	var k *calls.Work
	for range 2 {
		if k.May() || k.Step() || !k.Done() {
			t.Error(k.May(), k.Step(), k.Done())
		}
		if a, e := k.Answer(); !reflect.DeepEqual(a, api.Answer{}) || e != api.ErrNone {
			t.Error(a, e)
		}
		if c := k.Call(); c != (api.Call{}) {
			t.Error(c)
		}
	}
}

// P16.2: Call is the call whole, whatever of it plays a part.
func TestCall(t *testing.T) {
	for _, kind := range kinds {
		f := made(t, small(1, 1))
		c := api.Call{Kind: kind, Id: 1 << 40, Deadline: 1 << 50, Period: 1 << 60}
		w := begins(t, f, c)
		for w.k.Step() {
			if w.k.Call() != c {
				t.Fatal(w.k.Call())
			}
		}
		if w.k.Call() != c {
			t.Fatal(w.k.Call())
		}
	}
}

// A work that waits forever keeps nobody from going on, nor does one that is asked.
func TestWorksAreApart(t *testing.T) {
	f := made(t, small(2, 2))
	w, x := beginsAs(t, f, 0, 1, api.Call{Kind: api.Schedule, Deadline: 1}), beginsAs(t, f, 1, 2, api.Call{Kind: api.Schedule, Deadline: 2})
	for range 5 {
		w.k.Step()
	}
	for x.k.Step() {
	}
	w.isOpen()
	x.isDone(api.Answer{Ok: true, Id: 64, Gen: 1})
	for w.k.Step() {
	}
	w.isDone(api.Answer{Ok: true, Id: 65, Gen: 1})
	x.isDone(api.Answer{Ok: true, Id: 64, Gen: 1})
}

// Works of two floors share nothing.
func TestFloorsAreApart(t *testing.T) {
	var l []*floor.Floor
	for range 2 {
		l = append(l, made(t, small(1, 1)))
	}
	was := sees(l[1])
	if a := run(t, l[0], api.Call{Kind: api.Schedule}); !a.Ok {
		t.Error(a)
	}
	same(t, sees(l[1]), was)
	if a := run(t, l[1], api.Call{Kind: api.Schedule}); !a.Ok || a.Id != 64 {
		t.Error(a)
	}
}
