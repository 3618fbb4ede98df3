package turn_test

import (
	"math"

	"verge/api"
	"verge/floor"
	"verge/word"
)

// twin is a turn that goes by the chapter's lines, one by one, on a floor of its own.
type twin struct {
	f          *floor.Floor
	thread, no int
	line       string
	answer     api.Answer

	shard int
	// left is how many tasks are still to be popped; due are those that are still to be fired, from task on.
	left int
	due  []api.Task
	task api.Task
	saw  word.Word
	tick uint64
}

// twinOf is a twin that made no step.
func twinOf(f *floor.Floor, thread, no int) *twin {
	k := &twin{f: f, thread: thread, no: no, line: "1"}
	k.note(api.Event{Kind: api.EvCall})
	return k
}

func (k *twin) note(e api.Event) {
	e.Thread, e.Call, e.What = k.thread, k.no, api.Tick
	k.f.Note(e)
}

// may is whether the step of the line at hand may be made.
func (k *twin) may() bool {
	switch k.line {
	case "":
		return false
	case "a":
		_, owned := k.f.Shard(k.shard).Lock().Owner()
		return !owned
	case "c":
		return k.f.Shard(k.shard).Ready()
	}
	return true
}

// step makes the step of the line at hand, if it may be made.
func (k *twin) step() bool {
	if !k.may() {
		return false
	}
	switch {
	case len(k.line) > 1 || k.line < "a":
		k.line = k.outside()
	case k.line < "d" || k.line == "f" || k.line == "o":
		k.line = k.atShard()
	case k.line < "f":
		k.line = k.receives()
	case k.line < "j":
		k.line = k.fires()
	default:
		k.line = k.settles()
	}
	return true
}

// outside makes the steps outside of the shards.
func (k *twin) outside() string {
	switch k.line {
	case "1":
		k.f.Enter()
		return "2"
	case "2":
		if k.f.Closed() {
			return k.refused(api.ErrClosed)
		}
		return "3"
	case "3":
		now, e := k.f.Turn()
		if e != api.OK {
			return k.refused(e)
		}
		k.note(api.Event{Kind: api.EvTick, Tick: now})
		return "a"
	case "5":
		k.answer = api.Answer{Ok: true}
		return "leave"
	case "leave":
		k.f.Leave()
		return "end"
	}
	k.note(api.Event{Kind: api.EvAnswer, Id: k.answer.Id, Gen: k.answer.Gen, Err: k.answer.Err})
	return ""
}

// refused is the line behind a refusal.
func (k *twin) refused(e api.Errno) string {
	k.note(api.Event{Kind: api.EvRefuse, Err: e})
	k.answer = api.Answer{Err: e}
	return "leave"
}

// atShard makes the steps of a shard that are of no one task.
func (k *twin) atShard() string {
	s := k.f.Shard(k.shard)
	switch k.line {
	case "a":
		s.Lock().Try(k.thread)
		return "b"
	case "b":
		k.left = s.Waiting() + 1
		return k.nextToPop()
	case "c":
		k.task, _ = s.Pop()
		if k.task.Slot < 0 {
			return k.nextToPop()
		}
		return "d"
	case "f":
		due, _ := s.Turn()
		k.due = append([]api.Task{{}}, due...)
		return k.nextToFire()
	}
	s.Lock().Leave(k.thread)
	k.shard++
	if k.shard < k.f.Config().Shards {
		return "a"
	}
	return "5"
}

// nextToPop and nextToFire are the lines behind a task.
func (k *twin) nextToPop() string {
	k.left--
	if k.left > 0 {
		return "c"
	}
	return "f"
}

func (k *twin) nextToFire() string {
	k.due = k.due[1:]
	if len(k.due) == 0 {
		return "o"
	}
	k.task = k.due[0]
	return "g"
}

// looks is whether the task's slot is in a state, with its generation; it keeps what it saw.
func (k *twin) looks(state api.State) bool {
	k.saw, _ = k.f.Slab().Word(k.task.Slot)
	return k.saw.State() == state && k.saw.Gen() == k.task.Gen
}

// isItsSlots is whether the task's number is the greatest one that was given of its slot.
func (k *twin) isItsSlots() bool {
	id, e := k.f.Number(k.task.Slot)
	return e == api.OK && id == k.task.Id
}

// tries is whether an event happens to the word that it saw.
func (k *twin) tries(event int) bool {
	_, e := k.f.Slab().Try(k.task.Slot, k.saw, event)
	return e == api.OK
}

// arms arms the task, with that generation and deadline.
func (k *twin) arms(gen, deadline uint64) {
	x := k.task
	x.Gen, x.Deadline = gen, deadline
	d, _ := k.f.Shard(k.shard).Arm(x)
	k.note(api.Event{Kind: api.EvArm, Id: x.Id, Gen: gen, Deadline: d})
}

func (k *twin) receives() string {
	if k.line == "d" {
		if !k.looks(api.Queued) || !k.isItsSlots() {
			return k.nextToPop()
		}
		return "e"
	}
	if !k.tries(word.Enter) {
		return "d"
	}
	k.arms(k.task.Gen, k.task.Deadline)
	return k.nextToPop()
}

func (k *twin) fires() string {
	x := k.task
	switch k.line {
	case "g":
		if !k.looks(api.InWheel) || !k.isItsSlots() {
			return k.nextToFire()
		}
		return "h"
	case "h":
		if !k.tries(word.Claim) {
			return "g"
		}
		k.tick = k.f.Now()
		k.note(api.Event{Kind: api.EvFire, Id: x.Id, Gen: x.Gen, Deadline: x.Deadline, Tick: k.tick})
		return "i"
	}
	k.f.Pipe().Put(api.Firing{Id: x.Id, Gen: x.Gen, Deadline: x.Deadline, Tick: k.tick})
	return "j"
}

func (k *twin) settles() string {
	x := k.task
	fits := x.Period <= math.MaxUint64-x.Deadline
	switch k.line {
	case "j":
		switch {
		case !k.looks(api.Claimed):
			return k.nextToFire()
		case x.Period > 0 && !k.saw.Last() && fits:
			return "k"
		}
		return "l"
	case "k":
		if !k.tries(word.Rearm) {
			return "j"
		}
		k.arms(x.Gen+1, x.Deadline+x.Period)
		return k.nextToFire()
	case "l":
		if !k.tries(word.Finish) {
			return "j"
		}
		if x.Period > 0 && !k.saw.Last() {
			k.note(api.Event{Kind: api.EvOver, Id: x.Id, Gen: x.Gen})
		}
		return "m"
	case "m":
		k.saw, _ = k.f.Slab().Word(x.Slot)
		k.tries(word.Release)
		return "n"
	}
	k.f.Slab().Drop()
	return k.nextToFire()
}
