package calls

import (
	"verge/api"
	"verge/prog"
	"verge/word"
)

// ending is a Cancel or a Stop: a timer is to fire no more, now or behind its generation at hand.
type ending struct {
	*Work
	// event is what is to happen to the timer's word, told the kind of event by which that is noted.
	event, told int
}

// begin refuses the work, if the floor is closed.
func (e *ending) begin() prog.Stage {
	if e.floor.Closed() {
		return e.refuse(api.ErrClosed, e.end)
	}
	return next(e.find)
}

// find looks for what the event may happen to.
func (e *ending) find() prog.Stage {
	return e.look(e.event, func(s sight) prog.Stage { return next(e.strike(s)) }, e.end)
}

// strike is the step that tries the event, of the word that was seen.
func (e *ending) strike(s sight) step {
	return func() prog.Stage {
		_, struck := e.try(s, e.event, api.Event{Kind: e.told})
		switch {
		case !struck:
			return next(e.find)
		case e.event == word.Cancel:
			return next(e.release(s.slot))
		}
		return next(e.end)
	}
}

// release is the step that frees the record of a timer that is cancelled.
func (e *ending) release(slot int) step {
	return func() prog.Stage {
		e.happen(slot, word.Release)
		return next(e.drop)
	}
}

func (e *ending) drop() prog.Stage {
	e.floor.Slab().Drop()
	return next(e.end)
}
