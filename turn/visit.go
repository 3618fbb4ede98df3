package turn

import (
	"verge/api"
	"verge/prog"
	"verge/shard"
)

// visit is what a turn does at one shard. At its end stands what comes behind that shard; likewise at the end of each
// of its tasks what comes behind that task.
type visit struct {
	*Work
	shard *shard.Shard
}

// first waits for the shard's lock.
func (v *visit) first() prog.Stage {
	may := func() bool { return v.shard.Lock().May(v.thread) }
	return prog.Until(may, v.lock)
}

// lock takes the lock, which is to be had when this step may be made.
func (v *visit) lock() prog.Stage {
	v.shard.Lock().Try(v.thread)
	return next(v.count)
}

// count looks how many tasks wait. Those that come behind this look are left to the next turn: else a turn might
// never end.
func (v *visit) count() prog.Stage { return v.arrivals(v.shard.Waiting()) }

// arrivals is the stage at which so many tasks are still to be popped.
func (v *visit) arrivals(n int) prog.Stage {
	if n == 0 {
		return next(v.advance)
	}
	first := prog.Until(v.shard.Ready, v.pop)
	return prog.Then(first, func() prog.Stage { return v.arrivals(n - 1) })
}

// pop takes out a task, which is there when this step may be made.
func (v *visit) pop() prog.Stage {
	task, _ := v.shard.Pop()
	if task.Slot < 0 {
		return prog.Stage{}
	}
	return next((&arrival{v, task}).look)
}

// advance lets the shard's time go on.
func (v *visit) advance() prog.Stage {
	// The floor's time went on ahead of the shard's: that it did says that the shard's isn't over either.
	due, _ := v.shard.Turn()
	return v.firings(due)
}

// firings is the stage at which these tasks are still to be fired.
func (v *visit) firings(due []api.Task) prog.Stage {
	if len(due) == 0 {
		return next(v.unlock)
	}
	first := next((&firing{v, due[0]}).look)
	return prog.Then(first, func() prog.Stage { return v.firings(due[1:]) })
}

func (v *visit) unlock() prog.Stage {
	v.shard.Lock().Leave(v.thread)
	return prog.Stage{}
}

// arm lets the shard arm a task.
func (v *visit) arm(t api.Task) {
	// The shard's time isn't over as long as a turn's steps lead here, so that it refuses none.
	deadline, _ := v.shard.Arm(t)
	v.note(api.Event{Kind: api.EvArm, Id: t.Id, Gen: t.Gen, Deadline: deadline})
}
