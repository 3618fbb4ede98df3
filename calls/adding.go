package calls

import (
	"verge/api"
	"verge/prog"
	"verge/ring"
	"verge/slab"
	"verge/times"
	"verge/word"
)

// adding is a Schedule or a Periodic: a timer is to be there that wasn't.
type adding struct {
	*Work
	period  uint64
	request *slab.Request
	ticket  *ring.Ticket[api.Task]
	id      uint64
	slot    int
}

// begin is the first step of a Schedule, which has nothing to be checked.
func (a *adding) begin() prog.Stage { return next(a.enter) }

// check is the first step of a Periodic: may its period be?
func (a *adding) check() prog.Stage {
	_, err := times.Add(a.call.Deadline, a.period)
	if a.period == 0 || err != api.OK {
		return a.refuse(api.ErrInvalid, a.end)
	}
	return next(a.enter)
}

func (a *adding) enter() prog.Stage {
	a.floor.Enter()
	return next(a.ask)
}

// ask asks for a record, if the floor isn't closed.
func (a *adding) ask() prog.Stage {
	if a.floor.Closed() {
		return a.refuse(api.ErrClosed, a.leave)
	}
	a.request = a.floor.Slab().Begin(a.period)
	return next(a.take)
}

// take is the request's step.
func (a *adding) take() prog.Stage {
	switch a.request.Step() {
	case slab.Full:
		return a.refuse(api.ErrFull, a.leave)
	case slab.Held:
		return a.lineUp()
	}
	return next(a.take)
}

// lineUp asks for a place in the ring of the record that it holds.
func (a *adding) lineUp() prog.Stage {
	// A request that holds a record has its number, and that was given.
	a.id, _ = a.request.Id()
	a.slot, _ = a.floor.Slab().Slot(a.id)
	a.ticket = a.floor.Home(a.slot).Begin()
	return next(a.wait)
}

// wait is the ticket's step.
func (a *adding) wait() prog.Stage {
	switch a.ticket.Step() {
	case ring.Full:
		return next(a.giveBack)
	case ring.Held:
		return next(a.submit)
	}
	return next(a.wait)
}

// giveBack frees the record, for which there is no place.
func (a *adding) giveBack() prog.Stage {
	a.happen(a.slot, word.Finish)
	return a.refuse(api.ErrFull, a.drop)
}

func (a *adding) drop() prog.Stage {
	a.floor.Slab().Drop()
	return next(a.leave)
}

func (a *adding) submit() prog.Stage {
	gen := a.happen(a.slot, word.Submit).Gen()
	a.note(api.Event{Kind: api.EvAdd, Id: a.id, Gen: gen, Deadline: a.call.Deadline, Period: a.period})
	return next(a.fill(gen))
}

// fill is the step behind submit. The generation is that of then: by now the timer may have a later one, which has a
// task of its own.
func (a *adding) fill(gen uint64) step {
	return func() prog.Stage {
		a.ticket.Fill(api.Task{Id: a.id, Slot: a.slot, Gen: gen, Deadline: a.call.Deadline, Period: a.period})
		a.answer = api.Answer{Ok: true, Id: a.id, Gen: gen}
		return next(a.leave)
	}
}
