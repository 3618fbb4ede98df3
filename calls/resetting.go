package calls

import (
	"verge/api"
	"verge/prog"
	"verge/ring"
	"verge/word"
)

// resetting is a Reset: a timer is to fire at another deadline, with the next generation.
type resetting struct {
	*Work
	ticket *ring.Ticket[api.Task]
}

func (r *resetting) enter() prog.Stage {
	r.floor.Enter()
	return next(r.begin)
}

// begin refuses the work, if the floor is closed.
func (r *resetting) begin() prog.Stage {
	if r.floor.Closed() {
		return r.refuse(api.ErrClosed, r.leave)
	}
	return next(r.find)
}

// find looks for what may be reset, and asks for a place in its ring.
func (r *resetting) find() prog.Stage {
	return r.look(word.Reset, func(s sight) prog.Stage {
		r.ticket = r.floor.Home(s.slot).Begin()
		return next(r.wait)
	}, r.leave)
}

// wait is the ticket's step.
func (r *resetting) wait() prog.Stage {
	switch r.ticket.Step() {
	case ring.Full:
		return r.refuse(api.ErrFull, r.leave)
	case ring.Held:
		return next(r.findAgain)
	}
	return next(r.wait)
}

// findAgain looks anew, now that there is a place: meanwhile the timer may have gone.
func (r *resetting) findAgain() prog.Stage {
	return r.look(word.Reset, func(s sight) prog.Stage { return next(r.change(s)) }, r.fillWithNothing)
}

// change is the step that tries the reset, of the word that was seen.
func (r *resetting) change(s sight) step {
	return func() prog.Stage {
		gen, changed := r.try(s, word.Reset, api.Event{Kind: api.EvReset, Deadline: r.call.Deadline})
		if !changed {
			return next(r.findAgain)
		}
		return next(r.fill(s.slot, gen))
	}
}

// fill is the step that fills the place with the timer's task.
func (r *resetting) fill(slot int, gen uint64) step {
	return func() prog.Stage {
		period := r.floor.Slab().Period(slot)
		r.ticket.Fill(api.Task{Id: r.call.Id, Slot: slot, Gen: gen, Deadline: r.call.Deadline, Period: period})
		return next(r.leave)
	}
}

// fillWithNothing fills the place, since one that is taken can't be given back.
func (r *resetting) fillWithNothing() prog.Stage {
	r.ticket.Fill(api.Task{Slot: -1})
	return next(r.leave)
}
