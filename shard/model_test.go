package shard_test

import (
	"slices"
	"testing"

	"verge/api"
	"verge/ring"
	"verge/shard"
)

const (
	top = uint64(1<<64 - 1)
	far = uint64(1 << 24) // 64^4: what one turn of all four levels covers
)

// tickets is how many tickets a bench has at once.
const tickets = 3

// nobody is whose a lock is in the model, if it is nobody's.
const nobody = -1

// bench is a shard, and what must be so behind the same calls. Its ring is held against a ring of layer 4 to which
// the same is done. Its wheel is held against a plain list: the tasks that are armed, in the order in which they
// were, each with the deadline that it must have.
type bench struct {
	t      *testing.T
	s      *shard.Shard
	twin   *ring.Ring[api.Task]
	pairs  [tickets]pair
	now    uint64
	armed  []api.Task
	owner  int
	turns  int
	lastId uint64
	// popped is how many tasks were popped.
	popped int
}

// pair is a ticket of the shard, and one of the twin.
type pair struct {
	own, twin *ring.Ticket[api.Task]
	// holds says whether they hold a position that isn't published.
	holds bool
}

// newBench is a bench whose shard's time is now.
func newBench(t *testing.T, n int, now uint64) *bench {
	t.Helper()
	s := made(t, n)
	if now > 0 {
		s, _ = shard.From(n, now)
	}
	twin, _ := ring.New[api.Task](n)
	b := &bench{t: t, s: s, twin: twin, now: now, owner: nobody}
	for i := range b.pairs {
		b.begin(i)
	}
	return b
}

// task is a task that differs from all others in each of its fields.
func (b *bench) task(deadline uint64) api.Task {
	b.lastId++
	return api.Task{Id: b.lastId, Slot: int(b.lastId % 64), Gen: 1000 + b.lastId, Deadline: deadline, Period: 2000 + b.lastId}
}

// arm arms a task, and tells with which deadline it must be armed.
func (b *bench) arm(task api.Task) {
	b.t.Helper()
	got, err := b.s.Arm(task)
	want, wantErr := uint64(0), api.OK
	switch {
	case task.Slot < 0:
		wantErr = api.ErrInvalid
	case b.now == top:
		wantErr = api.ErrOver
	case task.Deadline <= b.now:
		want = b.now + 1
	default:
		want = task.Deadline
	}
	if got != want || err != wantErr {
		b.t.Errorf("Arm(%v) at %d: %d, %d, want %d, %d", task, b.now, got, err, want, wantErr)
	}
	if wantErr == api.OK {
		task.Deadline = want
		b.armed = append(b.armed, task)
	}
}

// turn goes on by one: just those must be due whose deadline it is then, in the order in which they were armed.
func (b *bench) turn() []api.Task {
	b.t.Helper()
	got, err := b.s.Turn()
	if b.now == top {
		if len(got) != 0 || err != api.ErrOver {
			b.t.Errorf("Turn at the end: %v, %d", got, err)
		}
		return nil
	}
	b.now++
	var want, rest []api.Task
	for _, task := range b.armed {
		if task.Deadline == b.now {
			want = append(want, task)
		} else {
			rest = append(rest, task)
		}
	}
	b.armed = rest
	if err != api.OK || !slices.Equal(got, want) {
		b.t.Errorf("Turn to %d: %v, %d, want %v", b.now, got, err, want)
	}
	return got
}

// until turns up to a time.
func (b *bench) until(now uint64) {
	b.t.Helper()
	for b.now < now {
		b.turn()
	}
}

// begin lets a ticket be a new one, here and there.
func (b *bench) begin(i int) {
	b.t.Helper()
	b.pairs[i] = pair{own: b.s.Begin(), twin: b.twin.Begin()}
	if b.pairs[i].own == nil {
		b.t.Fatal("Begin: nil")
	}
}

// step lets a ticket make a step, here and there.
func (b *bench) step(i int) {
	b.t.Helper()
	before := b.twin.Len()
	got, want := b.pairs[i].own.Step(), b.pairs[i].twin.Step()
	if got != want {
		b.t.Errorf("Step of ticket %d: %d, want %d", i, got, want)
	}
	if b.twin.Len() > before {
		b.pairs[i].holds = true
	}
}

// fill fills a ticket with a task, here and there.
func (b *bench) fill(i int, task api.Task) {
	b.t.Helper()
	got, want := b.pairs[i].own.Fill(task), b.pairs[i].twin.Fill(task)
	if got != want {
		b.t.Errorf("Fill of ticket %d: %d, want %d", i, got, want)
	}
	b.pairs[i].holds = false
}

// pop pops a task, here and there.
func (b *bench) pop() {
	b.t.Helper()
	got, err := b.s.Pop()
	want, wantErr := b.twin.Pop()
	if got != want || err != wantErr {
		b.t.Errorf("Pop: %v, %d, want %v, %d", got, err, want, wantErr)
	}
	if wantErr == api.OK {
		b.popped++
	}
}

// try takes the lock for one, here and there.
func (b *bench) try(who int) {
	b.t.Helper()
	want := who >= 0 && b.owner == nobody
	if want {
		b.owner = who
		b.turns++
	}
	if got := b.s.Lock().Try(who); got != want {
		b.t.Errorf("Try(%d): %t, want %t", who, got, want)
	}
}

// leave lets one leave the lock, here and there.
func (b *bench) leave(who int) {
	b.t.Helper()
	want := api.OK
	switch {
	case who < 0:
		want = api.ErrInvalid
	case who != b.owner:
		want = api.ErrState
	default:
		b.owner = nobody
	}
	if got := b.s.Lock().Leave(who); got != want {
		b.t.Errorf("Leave(%d): %d, want %d", who, got, want)
	}
}

// check asks the shard for all that it tells of itself, twice: to ask changes nothing.
func (b *bench) check() {
	b.t.Helper()
	for range 2 {
		waits(b.t, b.s, b.twin.Len(), b.twin.Ready())
		b.checkWheel()
		if b.owner == nobody {
			isNobodys(b.t, b.s)
		} else {
			isOf(b.t, b.s, b.owner)
		}
		if got := b.s.Lock().Turns(); got != b.turns {
			b.t.Errorf("Turns: %d, want %d", got, b.turns)
		}
	}
	if b.t.Failed() {
		b.t.FailNow()
	}
}

// checkWheel asks for what the shard tells of its wheel.
func (b *bench) checkWheel() {
	b.t.Helper()
	want, wantErr := uint64(0), api.ErrNone
	for _, task := range b.armed {
		if wantErr == api.ErrNone || task.Deadline < want {
			want, wantErr = task.Deadline, api.OK
		}
	}
	if got, err := b.s.Next(); got != want || err != wantErr {
		b.t.Errorf("Next at %d: %d, %d, want %d, %d", b.now, got, err, want, wantErr)
	}
	if now, n := b.s.Now(), b.s.Armed(); now != b.now || n != len(b.armed) {
		b.t.Errorf("Now, Armed: %d, %d, want %d, %d", now, n, b.now, len(b.armed))
	}
}

// starts are times from which a few turns lead over the turn of digits: none, one, two, three, four, all.
func starts() []uint64 {
	return []uint64{
		0, 1, 62, 4096 - 3, 64*64*64 - 2, far - 3, 5*far - 1, 1<<60 - 2, 12345678901234567890,
		far + 64*64*64 - 1, top - far - 1, top - 200, top - 1, top,
	}
}

// ahead are how far deadlines lie ahead: round each level's span, and beyond.
func ahead() []uint64 {
	return []uint64{
		0, 1, 2, 3, 5, 62, 63, 64, 65, 66, 127, 128, 4095, 4096, 4097, 4160,
		64*64*64 - 1, 64 * 64 * 64, 64*64*64 + 1, far - 1, far, far + 1, 2 * far, 1 << 40, 1 << 63,
	}
}

// later is a time that lies so far ahead, or the greatest one.
func later(now, by uint64) uint64 {
	if by > top-now {
		return top
	}
	return now + by
}

// dice is a row of numbers that is the same one in every run.
type dice uint64

func (d *dice) below(n int) int {
	*d = *d*6364136223846793005 + 1442695040888963407
	return int(uint64(*d) >> 33 % uint64(n))
}

// call makes one of so many calls, by its number.
func (b *bench) call(number int) {
	b.t.Helper()
	switch number {
	case 0, 1, 2:
		b.arm(b.task(later(b.now, []uint64{0, 1, 66}[number])))
	case 3:
		b.arm(b.task(0))
	case 4:
		task := b.task(b.now)
		task.Slot = -1
		b.arm(task)
	case 5:
		b.turn()
	case 6, 7:
		b.step(number - 6)
	case 8, 9:
		b.fill(number-8, b.task(b.now))
	case 10:
		b.pop()
	case 11, 12:
		b.try(number - 11)
	default:
		b.leave(number - 13)
	}
}

const calls = 15

// TestEveryShortRow goes through all rows of calls of a shard with room for one, with a task that is armed, behind
// one ticket that holds the position and another one that looked ahead of that.
func TestEveryShortRow(t *testing.T) {
	const length = 4
	rows := 1
	for range length {
		rows *= calls
	}
	for row := range rows {
		b := newBench(t, 1, 63)
		b.step(1)
		for range 3 {
			b.step(0)
		}
		b.arm(b.task(65))
		for range length {
			b.call(row % calls)
			b.check()
			row /= calls
		}
	}
}

func TestLongRows(t *testing.T) {
	for seed, start := range starts() {
		d := dice(seed)
		b := newBench(t, 1+d.below(5), start)
		for range 3000 {
			b.drawn(&d)
			b.check()
		}
		if b.popped < 30 || b.turns < 30 {
			t.Errorf("row %d popped %d tasks and took the lock %d times only", seed, b.popped, b.turns)
		}
	}
}

// drawn makes a call that is drawn.
func (b *bench) drawn(d *dice) {
	b.t.Helper()
	i := d.below(tickets)
	switch d.below(16) {
	case 0, 1:
		b.arm(b.task(later(b.now, ahead()[d.below(len(ahead()))]+uint64(d.below(3)))))
	case 2:
		b.arm(b.task(b.now - min(b.now, uint64(d.below(70)))))
	case 3, 4:
		b.turn()
	case 5:
		// A position that nobody can fill any more would be the last one of the row.
		if !b.pairs[i].holds {
			b.begin(i)
		}
	case 6, 7, 8, 9, 10:
		b.step(i)
	case 11, 12:
		b.fill(i, b.task(uint64(d.below(9))))
	case 13:
		b.pop()
	case 14:
		b.try(d.below(4) - 1)
	default:
		b.leave(b.owner - d.below(2))
	}
}
