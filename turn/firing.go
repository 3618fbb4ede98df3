package turn

import (
	"verge/api"
	"verge/prog"
	"verge/times"
	"verge/word"
)

// firing is a task that is due, and is to be fired.
type firing struct {
	*visit
	task api.Task
}

// look leads on to the end, if the timer isn't in the wheel any more by this task.
func (f *firing) look() prog.Stage {
	w, armed := f.sees(f.task, api.InWheel)
	if !armed || !f.mine(f.task) {
		return prog.Stage{}
	}
	return next(f.claim(w))
}

// claim is the step that tries Claim, of the word that was seen.
func (f *firing) claim(seen word.Word) step {
	return func() prog.Stage {
		if !f.try(f.task, seen, word.Claim) {
			return next(f.look)
		}
		t, now := f.task, f.floor.Now()
		f.note(api.Event{Kind: api.EvFire, Id: t.Id, Gen: t.Gen, Deadline: t.Deadline, Tick: now})
		return next(f.put(api.Firing{Id: t.Id, Gen: t.Gen, Deadline: t.Deadline, Tick: now}))
	}
}

// put is the step that puts what was claimed into the pipe.
func (f *firing) put(what api.Firing) step {
	return func() prog.Stage {
		f.floor.Pipe().Put(what)
		return next(f.settle)
	}
}

// settle looks whether the timer is armed anew, or goes; nothing is to be done, if somebody else saw to it.
func (f *firing) settle() prog.Stage {
	w, claimed := f.sees(f.task, api.Claimed)
	if !claimed {
		return prog.Stage{}
	}
	deadline, err := times.Add(f.task.Deadline, f.task.Period)
	if f.again(w) && err == api.OK {
		return next(f.rearm(w, deadline))
	}
	return next(f.finish(w))
}

// again is whether a word says that a generation is to follow the one that fired.
func (f *firing) again(w word.Word) bool { return f.task.Period != 0 && !w.Last() }

// rearm is the step that tries Rearm, of the word that was seen.
func (f *firing) rearm(seen word.Word, deadline uint64) step {
	return func() prog.Stage {
		if !f.try(f.task, seen, word.Rearm) {
			return next(f.settle)
		}
		t := f.task
		t.Gen++
		t.Deadline = deadline
		f.arm(t)
		return prog.Stage{}
	}
}

// finish is the step that tries Finish, of the word that was seen.
func (f *firing) finish(seen word.Word) step {
	return func() prog.Stage {
		if !f.try(f.task, seen, word.Finish) {
			return next(f.settle)
		}
		if f.again(seen) {
			// It was to follow: that its time lies beyond the end of time is all that keeps it from that.
			f.note(api.Event{Kind: api.EvOver, Id: f.task.Id, Gen: f.task.Gen})
		}
		return next(f.release)
	}
}

// release frees the record.
func (f *firing) release() prog.Stage {
	w, _ := f.floor.Slab().Word(f.task.Slot)
	f.try(f.task, w, word.Release)
	return next(f.drop)
}

func (f *firing) drop() prog.Stage {
	f.floor.Slab().Drop()
	return prog.Stage{}
}
