package turn_test

import (
	"testing"

	"verge/api"
	"verge/floor"
)

// P17.3: turns and works of layer 16 that step between each other.

// dice is a row of numbers that is the same one in every run.
type dice uint64

func (d *dice) below(n int) int {
	*d = *d*6364136223846793005 + 1442695040888963407
	return int(uint64(*d) >> 33 % uint64(n))
}

// call is a call of any kind.
func (d *dice) call(f *floor.Floor) api.Call {
	c := api.Call{Kind: 1 + d.below(5), Deadline: f.Now() + uint64(d.below(8))}
	switch c.Kind {
	case api.Schedule:
	case api.Periodic:
		c.Period = uint64(1 + d.below(4))
		if d.below(8) == 0 {
			c.Period = ^uint64(0) - c.Deadline - uint64(d.below(2))
		}
	default:
		c.Id, _ = f.Number(d.below(f.Config().Cap))
	}
	return c
}

// goesOn lets something happen: a thread goes on.
func (b *world) goesOn(d *dice, clients, drivers int) {
	b.t.Helper()
	thread := d.below(clients + 2*drivers)
	if thread >= clients {
		thread = clients + (thread-clients)%drivers
	}
	switch {
	case thread < clients && b.calls[thread] == nil:
		b.call(thread, d.call(b.f))
		return
	case thread >= clients && b.turns[thread] == nil:
		b.turn(thread)
		return
	}
	// Some go on for a while: others change little between two of their steps.
	for range 1 + d.below(12) {
		b.step(thread)
		if b.calls[thread] == nil && b.turns[thread] == nil {
			return
		}
	}
}

// settles lets all threads end.
func (b *world) settles(threads int) {
	b.t.Helper()
	for len(b.calls)+len(b.turns) > 0 {
		went := false
		for thread := range threads {
			if b.may(thread) {
				b.step(thread)
				went = true
			}
		}
		if !went {
			b.t.Fatal("nobody may go on")
		}
	}
}

// Each step is what the chapter's line asks, whatever others do meanwhile, and what follows holds.
func TestLongRows(t *testing.T) {
	events := map[string]int{}
	for seed := range 200 {
		d := dice(seed)
		clients, drivers := 1+d.below(4), 1
		if seed%3 == 2 {
			drivers = 2
		}
		b := newWorld(t, api.Config{Shards: 1 + d.below(3), Cap: 1 + d.below(6), Ring: 1 + d.below(5), Room: 1 + d.below(3), Workers: 1, Clients: 8})
		for i := range 300 {
			b.goesOn(&d, clients, drivers)
			if i%4 == 0 {
				b.same()
			}
		}
		if seed%5 == 0 {
			b.f.Shut()
			b.by.Shut()
		}
		b.settles(clients + drivers)
		b.ended()
		for event, n := range b.events {
			events[event] += n
		}
	}
	for _, event := range []string{
		"waits at a", "waits at c", "2leave", "bc", "bf", "cc", "cd", "cf", "dc", "de", "df", "ed", "ec", "ef", "fg", "fo",
		"gg", "gh", "go", "hg", "hi", "jg", "jk", "jl", "jo", "kj", "kg", "ko", "lm", "ng", "no", "oa", "o5", "armed", "gone",
	} {
		if events[event] == 0 {
			t.Errorf("%s: never: the rows are too tame", event)
		}
	}
}

// fork goes through all ways of a tree, one behind the other.
type fork struct {
	way, widths []int
	at          int
}

// pick is the way at hand out of n.
func (k *fork) pick(n int) int {
	if k.at == len(k.way) {
		k.way, k.widths = append(k.way, 0), append(k.widths, n)
	}
	k.at++
	return k.way[k.at-1]
}

// next is the next way, if there is one.
func (k *fork) next() bool {
	k.at = 0
	for i := len(k.way) - 1; i >= 0; i-- {
		if k.way[i]++; k.way[i] < k.widths[i] {
			k.way, k.widths = k.way[:i+1], k.widths[:i+1]
			return true
		}
	}
	return false
}

// plan is what is run in many orders.
type plan struct {
	config api.Config
	// ahead are calls that go alone, and then so many turns, ahead of all others.
	ahead []api.Call
	ticks int
	// calls are one thread each, turns one thread behind these for each row of so many turns.
	calls []api.Call
	turns []int
	// switches is how often at most one that may go on is left for another one.
	switches int
}

// run runs a plan in one order.
func (p plan) run(t *testing.T, k *fork) *world {
	t.Helper()
	b := newWorld(t, p.config)
	for _, c := range p.ahead {
		b.call(0, c)
		b.settles(1)
	}
	for range p.ticks {
		b.turn(0)
		b.settles(1)
	}
	for thread, c := range p.calls {
		b.call(thread, c)
	}
	left := append([]int{}, p.turns...)
	last, switches := -1, p.switches
	for {
		may := p.may(b, left)
		if len(may) == 0 {
			break
		}
		last, switches = pick(k, may, last, switches)
		if n := last - len(p.calls); n >= 0 && b.turns[last] == nil {
			left[n]--
			b.turn(last)
		}
		b.step(last)
	}
	if len(b.calls)+len(b.turns) > 0 {
		t.Fatal("nobody may go on")
	}
	b.ended()
	return b
}

// may are the threads that may go on, or begin a turn.
func (p plan) may(b *world, left []int) []int {
	var l []int
	for thread := range len(p.calls) + len(left) {
		n := thread - len(p.calls)
		if b.may(thread) || n >= 0 && b.turns[thread] == nil && left[n] > 0 {
			l = append(l, thread)
		}
	}
	return l
}

// pick is who goes on, and how many switches are left then.
func pick(k *fork, may []int, last, switches int) (int, int) {
	goes := false
	for _, thread := range may {
		goes = goes || thread == last
	}
	if goes && switches == 0 {
		return last, 0
	}
	thread := may[k.pick(len(may))]
	if goes && thread != last {
		switches--
	}
	return thread, switches
}

// each runs a plan in each order, with a turn alone behind it, and counts what happened.
func (p plan) each(t *testing.T, ended func(b *world)) map[string]int {
	t.Helper()
	events := map[string]int{}
	k := &fork{}
	for more := true; more; more = k.next() {
		b := p.run(t, k)
		if ended != nil {
			ended(b)
		}
		b.turn(0)
		b.settles(1)
		b.ended()
		for event, n := range b.events {
			events[event] += n
		}
	}
	return events
}

// A turn and one work, in many orders: the timer waits, or stands in the wheel, and is due, or not.
func TestManyOrdersOfATurnAndACall(t *testing.T) {
	events := map[string]int{}
	for _, period := range []uint64{0, 3, ^uint64(0) - 1, ^uint64(0)} {
		for _, kind := range []int{api.Cancel, api.Stop, api.Reset} {
			for ticks := range 2 {
				for deadline := range uint64(3) {
					first := api.Call{Kind: api.Schedule, Deadline: 1}
					if period > 0 {
						first = api.Call{Kind: api.Periodic, Period: period}
					}
					if ticks == 1 {
						first.Deadline += 2
						first.Period -= min(first.Period, 2)
					}
					p := plan{
						config:   small(1, 1, 2),
						ahead:    []api.Call{first},
						ticks:    ticks,
						calls:    []api.Call{{Kind: kind, Id: 64, Deadline: deadline}},
						turns:    []int{1},
						switches: 2,
					}
					for event, n := range p.each(t, nil) {
						events[event] += n
					}
				}
			}
		}
	}
	for _, event := range []string{"dc", "df", "ed", "gg", "go", "hg", "jo", "kj", "lj"} {
		if events[event] == 0 {
			t.Errorf("%s: in no order", event)
		}
	}
}

// Two turns and a work that brings a timer, in many orders.
func TestManyOrdersOfTurnsAndASchedule(t *testing.T) {
	for _, c := range []api.Call{
		{Kind: api.Schedule, Deadline: 0},
		{Kind: api.Schedule, Deadline: 2},
		{Kind: api.Periodic, Deadline: 1, Period: 1},
	} {
		p := plan{config: small(2, 1, 1), calls: []api.Call{c}, turns: []int{2}, switches: 2}
		fired := map[int]bool{}
		p.each(t, func(b *world) { fired[b.f.Pipe().Len()] = true })
		if !fired[0] || !fired[1] || fired[2] != (c.Kind == api.Periodic) {
			t.Errorf("%v: %v", c, fired)
		}
	}
}

// A turn and two works that ask for the same timer, in many orders.
func TestManyOrdersOfATurnAndTwoCalls(t *testing.T) {
	for _, period := range []uint64{0, 2} {
		for kind := api.Reset; kind <= api.Stop; kind++ {
			for other := kind; other <= api.Stop; other++ {
				first := api.Call{Kind: api.Schedule}
				if period > 0 {
					first = api.Call{Kind: api.Periodic, Period: period}
				}
				p := plan{
					config:   small(1, 1, 3),
					ahead:    []api.Call{first},
					calls:    []api.Call{{Kind: kind, Id: 64, Deadline: 1}, {Kind: other, Id: 64, Deadline: 2}},
					turns:    []int{1},
					switches: 2,
				}
				p.each(t, nil)
			}
		}
	}
}

// A timer that goes while its slot is given again, and a turn.
func TestManyOrdersOfATurnAndASlotThatIsGivenAgain(t *testing.T) {
	for _, ticks := range []int{0, 1} {
		for deadline := range uint64(3) {
			p := plan{
				config:   small(1, 1, 2),
				ahead:    []api.Call{{Kind: api.Schedule, Deadline: 2}},
				ticks:    ticks,
				calls:    []api.Call{{Kind: api.Cancel, Id: 64}, {Kind: api.Schedule, Deadline: deadline}},
				turns:    []int{1},
				switches: 2,
			}
			given := 0
			p.each(t, func(b *world) {
				if id, _ := b.f.Number(0); id == 128 {
					given++
				}
			})
			if given == 0 {
				t.Error("the slot was never given again")
			}
		}
	}
}

// Two turns of two threads, with timers that are due in both shards.
func TestManyOrdersOfTwoTurns(t *testing.T) {
	p := plan{
		config:   small(2, 3, 2),
		ahead:    []api.Call{{Kind: api.Schedule}, {Kind: api.Periodic, Period: 1}, {Kind: api.Schedule, Deadline: 2}},
		turns:    []int{1, 1},
		switches: 2,
	}
	p.each(t, func(b *world) {
		if b.f.Now() != 2 || b.f.Shard(0).Now() != 2 || b.f.Shard(1).Now() != 2 || b.f.Pipe().Len() != 4 {
			t.Fatal(b.f.Now(), b.f.Pipe().All())
		}
	})
}
