package calls_test

import (
	"testing"

	"verge/api"
	"verge/floor"
)

// dice is a row of numbers that is the same one in every run.
type dice uint64

func (d *dice) below(n int) int {
	*d = *d*6364136223846793005 + 1442695040888963407
	return int(uint64(*d) >> 33 % uint64(n))
}

// number is one that was given, of a slot's timer or of one ahead of it, or, now and then, one that wasn't.
func (d *dice) number(f *floor.Floor) uint64 {
	slot := d.below(f.Config().Cap)
	id, e := f.Number(slot)
	switch {
	case e != api.OK || d.below(12) == 0:
		return uint64(64*d.below(4) + d.below(f.Config().Cap+1))
	case d.below(6) == 0:
		return id - 64
	}
	return id
}

// call is a call of any kind.
func (d *dice) call(f *floor.Floor) api.Call {
	c := api.Call{Kind: kinds[d.below(len(kinds))], Deadline: uint64(d.below(9))}
	switch c.Kind {
	case api.Schedule:
	case api.Periodic:
		c.Period = uint64(d.below(6))
	default:
		c.Id = d.number(f)
	}
	if d.below(20) == 0 {
		c.Deadline, c.Period = ^uint64(0)-uint64(d.below(3)), uint64(d.below(4))
	}
	return c
}

// goesOn lets something happen: a thread goes on, or what fires does.
func (b *world) goesOn(d *dice, threads int) {
	b.t.Helper()
	c := b.f.Config()
	switch n := d.below(20); {
	case n < 2:
		b.take(d.below(c.Shards))
	case n < 3:
		b.claim(d.below(c.Cap))
	case n < 4:
		b.settle(d.below(c.Cap))
	case d.below(400) == 0:
		b.both(func(f *floor.Floor) { f.Shut() })
	default:
		thread := d.below(threads)
		if b.open[thread] == nil {
			b.begin(thread, d.call(b.f))
			break
		}
		// Some go on for a while: others change little between two of their steps.
		for range 1 + d.below(8) {
			if b.open[thread] != nil {
				b.step(thread)
			}
		}
	}
}

// Works of many threads step between each other in any order, while timers fire: each step is what the chapter's line
// asks, and what follows holds.
func TestLongRows(t *testing.T) {
	events := map[string]int{}
	for seed := range 400 {
		d := dice(seed)
		threads := 1 + d.below(5)
		b := newWorld(t, api.Config{Shards: 1 + d.below(3), Cap: 1 + d.below(4), Ring: 1 + d.below(4), Room: 1, Workers: 1, Clients: 8})
		for range 150 {
			b.goesOn(&d, threads)
			b.same()
		}
		for thread := range threads {
			for b.open[thread] != nil {
				b.step(thread)
			}
		}
		for shard := range b.f.Config().Shards {
			for range b.f.Config().Ring {
				b.take(shard)
			}
		}
		b.same()
		b.follows()
		if b.f.Inside() != 0 {
			t.Fatal("inside:", b.f.Inside())
		}
		for event, n := range b.events {
			events[event] += n
		}
	}
	for _, event := range []string{
		"Schedule ok", "Schedule full", "Schedule closed",
		"Periodic ok", "Periodic full", "Periodic closed", "Periodic invalid",
		"Reset ok", "Reset no", "Reset full", "Reset closed", "Reset invalid", "nothing popped",
		"Cancel ok", "Cancel no", "Cancel closed", "Cancel invalid",
		"Stop ok", "Stop no", "Stop closed", "Stop invalid",
	} {
		if events[event] < 10 {
			t.Errorf("%s: %d times: the rows are too tame", event, events[event])
		}
	}
}

// fork goes through all ways of a tree, one behind the other.
type fork struct {
	way, widths []int
	at          int
}

// pick is which one of n is picked at this place of the way at hand.
func (k *fork) pick(n int) int {
	if k.at == len(k.way) {
		k.way, k.widths = append(k.way, 0), append(k.widths, n)
	}
	k.at++
	return k.way[k.at-1]
}

// next is the next way, if there is one.
func (k *fork) next() bool {
	k.at = 0
	for i := len(k.way) - 1; i >= 0; i-- {
		if k.way[i]++; k.way[i] < k.widths[i] {
			k.way, k.widths = k.way[:i+1], k.widths[:i+1]
			return true
		}
	}
	return false
}

// plan is what is run in many orders.
type plan struct {
	config api.Config
	// ahead is done on both floors, ahead of all works.
	ahead func(f *floor.Floor)
	calls []api.Call
	// driver is what happens beside the works, one behind the other.
	driver []func(b *world)
	// switches is how often at most one that isn't done is left for another one.
	switches int
}

// run runs a plan in one order.
func (p plan) run(t *testing.T, k *fork) *world {
	t.Helper()
	b := newWorld(t, p.config)
	if p.ahead != nil {
		b.both(p.ahead)
	}
	for thread, c := range p.calls {
		b.begin(thread, c)
	}
	done, last, switches := 0, -1, p.switches
	for {
		var may []int
		for thread := range p.calls {
			if b.open[thread] != nil {
				may = append(may, thread)
			}
		}
		if done < len(p.driver) {
			may = append(may, len(p.calls))
		}
		if len(may) == 0 {
			break
		}
		thread, left := p.pick(k, may, last, switches)
		last, switches = thread, left
		if thread < len(p.calls) {
			b.step(thread)
			continue
		}
		p.driver[done](b)
		done++
	}
	b.same()
	b.follows()
	return b
}

// pick is who goes on, and how many switches are left then.
func (p plan) pick(k *fork, may []int, last, switches int) (int, int) {
	goes := false
	for _, thread := range may {
		goes = goes || thread == last
	}
	if goes && switches == 0 {
		return last, 0
	}
	thread := may[k.pick(len(may))]
	if goes && thread != last {
		switches--
	}
	return thread, switches
}

// each runs a plan in each order.
func (p plan) each(t *testing.T, ended func(b *world)) {
	t.Helper()
	k := &fork{}
	for more := true; more; more = k.next() {
		b := p.run(t, k)
		if ended != nil {
			ended(b)
		}
	}
}

// oks is how many works of a kind answered Ok.
func (b *world) oks(kind int) int {
	n := 0
	for _, p := range b.all {
		if a, _ := p.k.Answer(); a.Ok && p.k.Call().Kind == kind {
			n++
		}
	}
	return n
}

// timer is a floor's first timer, once or by periods, that waits in its ring.
func timer(t *testing.T, period uint64) func(f *floor.Floor) {
	return func(f *floor.Floor) {
		c := api.Call{Kind: api.Schedule, Deadline: 5}
		if period > 0 {
			c.Kind, c.Period = api.Periodic, period
		}
		if a := run(t, f, c); !a.Ok || a.Id != 64 {
			t.Fatal(a)
		}
	}
}

// fires is what a tick does to the first timer.
func fires() []func(b *world) {
	return []func(b *world){
		func(b *world) { b.take(0) },
		func(b *world) { b.claim(0) },
		func(b *world) { b.settle(0) },
	}
}

// Two works of the kinds that ask for a timer's end, in every order; and a timer that fires meanwhile.
func TestEveryOrderOfTwoEndings(t *testing.T) {
	for _, period := range []uint64{0, 3} {
		for _, kind := range []int{api.Cancel, api.Stop} {
			for _, other := range []int{api.Cancel, api.Stop} {
				p := plan{
					config:   small(1, 2),
					ahead:    timer(t, period),
					calls:    []api.Call{{Kind: kind, Id: 64}, {Kind: other, Id: 64}},
					switches: 100,
				}
				p.each(t, func(b *world) {
					if n := b.oks(api.Cancel); kind == api.Cancel && n != 1 || kind == api.Cancel && other == api.Cancel && b.f.Slab().Count() != 0 {
						t.Fatal("Cancels that answer Ok:", n)
					}
					if n := b.oks(api.Stop); n > 1 || period == 0 && n > 0 {
						t.Fatal("Stops that answer Ok:", n)
					}
				})
			}
		}
	}
}

func TestEveryOrderOfOneEndingAndItsTimersFiring(t *testing.T) {
	for _, period := range []uint64{0, 3} {
		for _, kind := range []int{api.Cancel, api.Stop, api.Reset} {
			p := plan{
				config:   small(1, 2),
				ahead:    timer(t, period),
				calls:    []api.Call{{Kind: kind, Id: 64, Deadline: 9}},
				driver:   append(fires(), fires()...),
				switches: 100,
			}
			p.each(t, nil)
		}
	}
}

func TestEveryOrderOfACancelAndAReset(t *testing.T) {
	for _, period := range []uint64{0, 3} {
		p := plan{
			config:   small(1, 2),
			ahead:    timer(t, period),
			calls:    []api.Call{{Kind: api.Cancel, Id: 64}, {Kind: api.Reset, Id: 64, Deadline: 9}},
			switches: 100,
		}
		p.each(t, func(b *world) {
			if b.oks(api.Cancel) != 1 || b.f.Slab().Count() != 0 {
				t.Fatal("the Cancel isn't Ok")
			}
		})
	}
}

// Two works of any kinds, on a floor with little room, in each order with few switches; and a timer that fires meanwhile.
func TestManyOrdersOfTwo(t *testing.T) {
	for i, kind := range kinds {
		for _, other := range kinds[i:] {
			for records := 1; records <= 2; records++ {
				for places := 1; places <= 2; places++ {
					p := plan{
						config:   small(records, places),
						ahead:    timer(t, 3),
						calls:    []api.Call{{Kind: kind, Id: 64, Deadline: 7, Period: 2}, {Kind: other, Id: 64, Deadline: 8, Period: 4}},
						driver:   fires(),
						switches: 2,
					}
					p.each(t, nil)
				}
			}
		}
	}
}

// Three works, likewise.
func TestManyOrdersOfThree(t *testing.T) {
	for _, l := range [][3]int{
		{api.Cancel, api.Cancel, api.Cancel},
		{api.Cancel, api.Cancel, api.Reset},
		{api.Cancel, api.Reset, api.Reset},
		{api.Cancel, api.Stop, api.Reset},
		{api.Cancel, api.Cancel, api.Schedule},
		{api.Cancel, api.Stop, api.Periodic},
		{api.Cancel, api.Reset, api.Schedule},
		{api.Cancel, api.Periodic, api.Schedule},
	} {
		p := plan{config: small(2, 2), ahead: timer(t, 3), driver: fires()[:2], switches: 2}
		for i, kind := range l {
			p.calls = append(p.calls, api.Call{Kind: kind, Id: 64, Deadline: uint64(7 + i), Period: uint64(2 + i)})
		}
		p.each(t, func(b *world) {
			// What is periodic may be cancelled, even if it is claimed, as long as it isn't the last.
			if n := b.oks(api.Cancel); n > 1 || n == 0 && b.oks(api.Stop) == 0 {
				t.Fatalf("%v: %d Cancels answer Ok", l, n)
			}
		})
	}
}

// On an empty floor of little room: of Schedules as many answer Ok as there are records, or fewer where they stand in
// each other's way.
func TestManyOrdersOfSchedules(t *testing.T) {
	for records := 1; records <= 2; records++ {
		for places := 1; places <= 2; places++ {
			p := plan{
				config:   small(records, places),
				calls:    []api.Call{{Kind: api.Schedule, Deadline: 7}, {Kind: api.Periodic, Deadline: 8, Period: 4}},
				switches: 4,
			}
			p.each(t, func(b *world) {
				n := b.oks(api.Schedule) + b.oks(api.Periodic)
				if n < 1 || n > min(records, places) || b.f.Slab().Count() != n || b.f.Shard(0).Waiting() != n {
					t.Fatalf("%d answer Ok, of %d records and %d places", n, records, places)
				}
			})
		}
	}
}
