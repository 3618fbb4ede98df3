package calls_test

import (
	"math"

	"verge/api"
	"verge/floor"
	"verge/ring"
	"verge/slab"
	"verge/word"
)

// twin is a work that goes by the chapter's lines, one by one, on a floor of its own.
type twin struct {
	f          *floor.Floor
	thread, no int
	call       api.Call
	line       string
	answer     api.Answer

	period  uint64
	request *slab.Request
	ticket  *ring.Ticket[api.Task]
	id      uint64
	slot    int
	saw     word.Word
	gen     uint64
}

// twinOf is a twin that made no step.
func twinOf(f *floor.Floor, thread, no int, c api.Call) *twin {
	k := &twin{f: f, thread: thread, no: no, call: c, line: map[int]string{
		api.Schedule: "adding 1", api.Periodic: "adding 1", api.Reset: "reset 1", api.Cancel: "ending 1", api.Stop: "ending 1",
	}[c.Kind]}
	if c.Kind == api.Periodic {
		k.period = c.Period
	}
	k.note(api.Event{Kind: api.EvCall, Id: c.Id, Deadline: c.Deadline, Period: c.Period})
	return k
}

func (k *twin) note(e api.Event) {
	e.Thread, e.Call, e.What = k.thread, k.no, k.call.Kind
	k.f.Note(e)
}

// refused is the line behind a refusal.
func (k *twin) refused(e api.Errno, line string) string {
	k.note(api.Event{Kind: api.EvRefuse, Err: e})
	k.answer = api.Answer{Err: e}
	return line
}

// step makes the step of the line at hand, unless there is none.
func (k *twin) step() bool {
	switch k.line {
	case "":
		return false
	case "leave":
		k.f.Leave()
		k.line = "end"
	case "end":
		k.note(api.Event{Kind: api.EvAnswer, Id: k.answer.Id, Gen: k.answer.Gen, Err: k.answer.Err})
		k.line = ""
	default:
		switch k.call.Kind {
		case api.Schedule, api.Periodic:
			k.line = k.adding()
		case api.Reset:
			k.line = k.resetting()
		default:
			k.line = k.ending()
		}
	}
	return true
}

func (k *twin) adding() string {
	task := api.Task{Id: k.id, Slot: k.slot, Gen: k.gen, Deadline: k.call.Deadline, Period: k.period}
	switch k.line {
	case "adding 1":
		if k.call.Kind == api.Periodic && (k.period == 0 || k.period > math.MaxUint64-k.call.Deadline) {
			return k.refused(api.ErrInvalid, "end")
		}
		return "adding 2"
	case "adding 2":
		k.f.Enter()
		return "adding 3"
	case "adding 3":
		if k.f.Closed() {
			return k.refused(api.ErrClosed, "leave")
		}
		k.request = k.f.Slab().Begin(k.period)
		return "adding 4"
	case "adding 4":
		switch k.request.Step() {
		case slab.Full:
			return k.refused(api.ErrFull, "leave")
		case slab.Held:
			k.id, _ = k.request.Id()
			k.slot = int(k.id % 64)
			k.ticket = k.f.Shard(k.slot % k.f.Config().Shards).Begin()
			return "adding 5"
		}
		return "adding 4"
	case "adding 5":
		return k.waits("adding 5", "adding 5a", "adding 6")
	case "adding 5a":
		w, _ := k.f.Slab().Word(k.slot)
		k.f.Slab().Try(k.slot, w, word.Finish)
		return k.refused(api.ErrFull, "adding 5b")
	case "adding 5b":
		k.f.Slab().Drop()
		return "leave"
	case "adding 6":
		w, _ := k.f.Slab().Word(k.slot)
		k.f.Slab().Try(k.slot, w, word.Submit)
		w, _ = k.f.Slab().Word(k.slot)
		k.gen = w.Gen()
		k.note(api.Event{Kind: api.EvAdd, Id: k.id, Gen: k.gen, Deadline: k.call.Deadline, Period: k.period})
		return "adding 7"
	}
	k.ticket.Fill(task)
	k.answer = api.Answer{Ok: true, Id: k.id, Gen: k.gen}
	return "leave"
}

func (k *twin) ending() string {
	event, told := word.Cancel, api.EvCancel
	if k.call.Kind == api.Stop {
		event, told = word.Stop, api.EvStop
	}
	switch k.line {
	case "ending 1":
		if k.f.Closed() {
			return k.refused(api.ErrClosed, "end")
		}
		return "ending 2"
	case "ending 2":
		if e, no := k.looks(event); no {
			return k.refused(e, "end")
		}
		return "ending 3"
	case "ending 3":
		if !k.tries(event, api.Event{Kind: told}) {
			return "ending 2"
		}
		if event == word.Stop {
			return "end"
		}
		return "ending 4"
	case "ending 4":
		w, _ := k.f.Slab().Word(k.slot)
		k.f.Slab().Try(k.slot, w, word.Release)
		return "ending 5"
	}
	k.f.Slab().Drop()
	return "end"
}

func (k *twin) resetting() string {
	switch k.line {
	case "reset 1":
		k.f.Enter()
		return "reset 2"
	case "reset 2":
		if k.f.Closed() {
			return k.refused(api.ErrClosed, "leave")
		}
		return "reset 3"
	case "reset 3":
		if e, no := k.looks(word.Reset); no {
			return k.refused(e, "leave")
		}
		k.ticket = k.f.Shard(k.slot % k.f.Config().Shards).Begin()
		return "reset 4"
	case "reset 4":
		if line := k.waits("reset 4", "", "reset 5"); line != "" {
			return line
		}
		return k.refused(api.ErrFull, "leave")
	case "reset 5":
		if _, no := k.looks(word.Reset); no {
			return k.refused(api.OK, "reset 5a")
		}
		return "reset 6"
	case "reset 5a":
		k.ticket.Fill(api.Task{Slot: -1})
		return "leave"
	case "reset 6":
		if !k.tries(word.Reset, api.Event{Kind: api.EvReset, Deadline: k.call.Deadline}) {
			return "reset 5"
		}
		return "reset 7"
	}
	period := k.f.Slab().Period(k.slot)
	k.ticket.Fill(api.Task{Id: k.call.Id, Slot: k.slot, Gen: k.answer.Gen, Deadline: k.call.Deadline, Period: period})
	return "leave"
}

// waits is the line behind the ticket's step.
func (k *twin) waits(working, full, held string) string {
	switch k.ticket.Step() {
	case ring.Full:
		return full
	case ring.Held:
		return held
	}
	return working
}

// looks is whether the work is refused for what it looks at, and with what.
func (k *twin) looks(event int) (api.Errno, bool) {
	given := uint64(0)
	k.slot = int(k.call.Id % 64)
	if id, e := k.f.Number(k.slot); e == api.OK {
		given = id / 64
	}
	times := k.call.Id / 64
	if times == 0 || times > given {
		return api.ErrInvalid, true
	}
	k.saw, _ = k.f.Slab().Word(k.slot)
	_, e := word.Next(k.saw, event, k.f.Slab().Period(k.slot) != 0)
	return api.OK, times < given || e != api.OK
}

// tries is whether an event happens to the word that it looked at; then it is noted, and the answer.
func (k *twin) tries(event int, told api.Event) bool {
	w, e := k.f.Slab().Try(k.slot, k.saw, event)
	if e != api.OK {
		return false
	}
	told.Id, told.Gen = k.call.Id, w.Gen()
	k.note(told)
	k.answer = api.Answer{Ok: true, Id: told.Id, Gen: told.Gen}
	return true
}
