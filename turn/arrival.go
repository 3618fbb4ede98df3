package turn

import (
	"verge/api"
	"verge/prog"
	"verge/word"
)

// arrival is a task that was popped, and is to be armed.
type arrival struct {
	*visit
	task api.Task
}

// look leads on to the end, if the task isn't waited for any more.
func (a *arrival) look() prog.Stage {
	w, queued := a.sees(a.task, api.Queued)
	if !queued || !a.mine(a.task) {
		return prog.Stage{}
	}
	return next(a.enter(w))
}

// enter is the step that tries Enter, of the word that was seen.
func (a *arrival) enter(seen word.Word) step {
	return func() prog.Stage {
		if !a.try(a.task, seen, word.Enter) {
			return next(a.look)
		}
		a.arm(a.task)
		return prog.Stage{}
	}
}
