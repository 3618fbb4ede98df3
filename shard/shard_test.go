package shard_test

import (
	"math"
	"slices"
	"testing"

	"verge/api"
	"verge/lock"
	"verge/ring"
	"verge/shard"
)

// made is a shard that New must make.
func made(t *testing.T, n int) *shard.Shard {
	t.Helper()
	s, err := shard.New(n)
	if s == nil || err != api.OK {
		t.Fatalf("New(%d): %v, %d", n, s, err)
	}
	return s
}

// from is a shard whose wheel's time is now.
func from(t *testing.T, now uint64) *shard.Shard {
	t.Helper()
	s, err := shard.From(1, now)
	if err != api.OK {
		t.Fatal(err)
	}
	return s
}

// whole is a task of which no field is 0.
func whole(id, deadline uint64) api.Task {
	return api.Task{Id: id, Slot: int(id%64) + 1, Gen: id + 100, Deadline: deadline, Period: id + 1000}
}

// waits holds what a shard tells of its ring against what is wanted.
func waits(t *testing.T, s *shard.Shard, n int, ready bool) {
	t.Helper()
	if got, is := s.Waiting(), s.Ready(); got != n || is != ready {
		t.Errorf("Waiting, Ready: %d, %t, want %d, %t", got, is, n, ready)
	}
}

// pops takes out a task, which must be this one.
func pops(t *testing.T, s *shard.Shard, want api.Task) {
	t.Helper()
	if got, err := s.Pop(); got != want || err != api.OK {
		t.Errorf("Pop: %v, %d, want %v", got, err, want)
	}
}

// popsNone asks for a task where none is published.
func popsNone(t *testing.T, s *shard.Shard) {
	t.Helper()
	if got, err := s.Pop(); got != (api.Task{}) || err != api.ErrNone {
		t.Errorf("Pop: %v, %d, want none", got, err)
	}
}

// steps makes a ticket's steps, and holds each answer against what is wanted.
func steps(t *testing.T, k *ring.Ticket[api.Task], want ...ring.Status) {
	t.Helper()
	for i, w := range want {
		if got := k.Step(); got != w {
			t.Errorf("step %d: %d, want %d", i, got, w)
		}
	}
}

// held is a ticket that worked alone and holds a position.
func held(t *testing.T, s *shard.Shard) *ring.Ticket[api.Task] {
	t.Helper()
	k := s.Begin()
	steps(t, k, ring.Working, ring.Working, ring.Held)
	return k
}

// fills publishes a ticket's position.
func fills(t *testing.T, k *ring.Ticket[api.Task], task api.Task) {
	t.Helper()
	if err := k.Fill(task); err != api.OK {
		t.Errorf("Fill(%v): %d", task, err)
	}
}

// isOf asks a shard's lock whose it is.
func isOf(t *testing.T, s *shard.Shard, want int) {
	t.Helper()
	if who, is := s.Lock().Owner(); who != want || !is {
		t.Errorf("Owner: %d, %t, want %d, true", who, is, want)
	}
}

// isNobodys asks a shard's lock, that is nobody's, whose it is.
func isNobodys(t *testing.T, s *shard.Shard) {
	t.Helper()
	if who, is := s.Lock().Owner(); who != 0 || is {
		t.Errorf("Owner: %d, %t, want 0, false", who, is)
	}
}

// arms arms a task, and holds its deadline against what is wanted.
func arms(t *testing.T, s *shard.Shard, task api.Task, want uint64) {
	t.Helper()
	if got, err := s.Arm(task); got != want || err != api.OK {
		t.Errorf("Arm(%v) at %d: %d, %d, want %d", task, s.Now(), got, err, want)
	}
}

// refuses asks for an arming that may not be.
func refuses(t *testing.T, s *shard.Shard, task api.Task, want api.Errno) {
	t.Helper()
	if got, err := s.Arm(task); got != 0 || err != want {
		t.Errorf("Arm(%v) at %d: %d, %d, want 0, %d", task, s.Now(), got, err, want)
	}
}

// turns goes on by one: just these tasks must be due.
func turns(t *testing.T, s *shard.Shard, want ...api.Task) {
	t.Helper()
	if got, err := s.Turn(); err != api.OK || !slices.Equal(got, want) {
		t.Errorf("Turn to %d: %v, %d, want %v", s.Now(), got, err, want)
	}
}

// wheelIs holds what a shard tells of its wheel against what is wanted; of no tasks next has no meaning.
func wheelIs(t *testing.T, s *shard.Shard, now uint64, armed int, next uint64) {
	t.Helper()
	want := api.OK
	if armed == 0 {
		next, want = 0, api.ErrNone
	}
	if got, err := s.Next(); got != next || err != want {
		t.Errorf("Next at %d: %d, %d, want %d, %d", s.Now(), got, err, next, want)
	}
	if got, n := s.Now(), s.Armed(); got != now || n != armed {
		t.Errorf("Now, Armed: %d, %d, want %d, %d", got, n, now, armed)
	}
}

// isNew holds all that a shard tells against what a new one has to.
func isNew(t *testing.T, s *shard.Shard) {
	t.Helper()
	waits(t, s, 0, false)
	popsNone(t, s)
	wheelIs(t, s, 0, 0, 0)
	isNobodys(t, s)
	if n := s.Lock().Turns(); n != 0 {
		t.Errorf("Turns: %d", n)
	}
}

func TestTheExample(t *testing.T) {
	s := made(t, 4)
	arms(t, s, api.Task{Id: 7}, 1)
	turns(t, s, api.Task{Id: 7, Deadline: 1})
}

// P13.1

func TestNew(t *testing.T) {
	for _, n := range []int{0, -1, -2, -64, 65, 66, 128, 1 << 32, math.MinInt, math.MaxInt} {
		if s, err := shard.New(n); s != nil || err != api.ErrRange {
			t.Errorf("New(%d): %v, %d", n, s, err)
		}
	}
	for n := 1; n <= 64; n++ {
		s := made(t, n)
		// To ask changes nothing.
		isNew(t, s)
		isNew(t, s)
	}
}

func TestEveryRoom(t *testing.T) {
	for n := 1; n <= 64; n++ {
		s := made(t, n)
		var all []*ring.Ticket[api.Task]
		for i := range n {
			waits(t, s, i, false)
			all = append(all, held(t, s))
		}
		steps(t, s.Begin(), ring.Working, ring.Full)
		// The last one is published first: nothing is ready ahead of the first one.
		for i := n - 1; i >= 0; i-- {
			waits(t, s, n, false)
			popsNone(t, s)
			fills(t, all[i], whole(uint64(i), 5))
		}
		steps(t, s.Begin(), ring.Working, ring.Full)
		for i := range n {
			waits(t, s, n-i, true)
			pops(t, s, whole(uint64(i), 5))
		}
		isNew(t, s)
	}
}

func TestShardsHaveTheirOwnParts(t *testing.T) {
	s, o := made(t, 2), made(t, 2)
	if s == o || s.Lock() == o.Lock() {
		t.Fatal("two shards share what they have")
	}
	s.Lock().Try(3)
	fills(t, held(t, s), whole(1, 1))
	arms(t, s, whole(2, 9), 9)
	turns(t, s)
	isNew(t, o)
	turns(t, o)
	wheelIs(t, o, 1, 0, 0)
	wheelIs(t, s, 1, 1, 9)
}

func TestLock(t *testing.T) {
	s := made(t, 1)
	l := s.Lock()
	if l == nil {
		t.Fatal("Lock: nil")
	}
	same := func() {
		t.Helper()
		if s.Lock() != l {
			t.Fatal("Lock: another one")
		}
	}
	same()
	for n, who := range []int{3, 0, 3, math.MaxInt} {
		if !s.Lock().Try(who) || l.Try(who) || s.Lock().Try(who+1) || s.Lock().May(who) {
			t.Errorf("%d doesn't have it alone", who)
		}
		same()
		isOf(t, s, who)
		if err := l.Leave(4); err != api.ErrState {
			t.Errorf("Leave(4): %d", err)
		}
		arms(t, s, whole(1, 0), s.Now()+1)
		s.Turn()
		same()
		isOf(t, s, who)
		if err := l.Leave(who); err != api.OK || s.Lock().Turns() != n+1 || !s.Lock().May(5) {
			t.Errorf("Leave(%d): %d, and it became somebody's %d times", who, err, s.Lock().Turns())
		}
		isNobodys(t, s)
	}
	if s.Lock().Try(-1) || s.Lock().Leave(-1) != api.ErrInvalid {
		t.Error("a number below 0 has it")
	}
	same()
}

func TestBeginTakesNothing(t *testing.T) {
	s := made(t, 1)
	a, b := s.Begin(), s.Begin()
	if a == nil || b == nil || a == b {
		t.Fatal("Begin: no two tickets")
	}
	isNew(t, s)
	steps(t, a, ring.Working, ring.Working)
	waits(t, s, 0, false)
	if err := a.Fill(whole(1, 1)); err != api.ErrState {
		t.Errorf("Fill of a ticket that holds nothing: %d", err)
	}
	steps(t, a, ring.Held)
	waits(t, s, 1, false)
	steps(t, b, ring.Working, ring.Full)
	popsNone(t, s)
	fills(t, a, whole(1, 1))
	waits(t, s, 1, true)
	if err := a.Fill(whole(2, 2)); err != api.ErrState {
		t.Errorf("Fill of a position that is published: %d", err)
	}
	pops(t, s, whole(1, 1))
	isNew(t, s)
}

// TestTicketsStepBetweenEachOther lets three tickets step in every order: tasks are popped in the order in which
// their positions were taken, whoever is filled first.
func TestTicketsStepBetweenEachOther(t *testing.T) {
	const length = 9
	rows := 1
	for range length {
		rows *= tickets
	}
	for row := range rows {
		s := made(t, 2)
		all := [tickets]*ring.Ticket[api.Task]{s.Begin(), s.Begin(), s.Begin()}
		var order []int
		for rest, i := row, 0; i < length; i++ {
			who := rest % tickets
			rest /= tickets
			if all[who].Step() == ring.Held && !slices.Contains(order, who) {
				order = append(order, who)
			}
			waits(t, s, len(order), false)
		}
		if len(order) > 2 {
			t.Fatalf("row %d: %v hold a position, of a ring with room for two", row, order)
		}
		for i := len(order) - 1; i >= 0; i-- {
			popsNone(t, s)
			fills(t, all[order[i]], whole(uint64(order[i]), 1))
		}
		for i, who := range order {
			waits(t, s, len(order)-i, true)
			pops(t, s, whole(uint64(who), 1))
		}
		isNew(t, s)
	}
}

func TestTasksWaitAsTheyAre(t *testing.T) {
	s := made(t, 3)
	tasks := []api.Task{
		{}, {Slot: -1}, whole(5, 0), whole(64, top), {Id: top, Slot: math.MinInt, Gen: top, Deadline: top, Period: top}, {Slot: math.MaxInt},
	}
	for _, task := range tasks {
		fills(t, held(t, s), task)
		turns(t, s)
		pops(t, s, task)
	}
	waits(t, s, 0, false)
}

func TestWhatWaitsIsNotArmed(t *testing.T) {
	s := made(t, 2)
	fills(t, held(t, s), whole(1, 1))
	held(t, s)
	s.Lock().Try(2)
	wheelIs(t, s, 0, 0, 0)
	turns(t, s)
	turns(t, s)
	wheelIs(t, s, 2, 0, 0)
	waits(t, s, 2, true)
	isOf(t, s, 2)
	pops(t, s, whole(1, 1))
	popsNone(t, s)
	wheelIs(t, s, 2, 0, 0)
	// A popped task is armed only when somebody arms it.
	arms(t, s, whole(1, 1), 3)
	wheelIs(t, s, 2, 1, 3)
	waits(t, s, 1, false)
	turns(t, s, whole(1, 3))
}

func TestWhatIsArmedDoesNotWait(t *testing.T) {
	s := made(t, 1)
	for i := range uint64(200) {
		arms(t, s, whole(i, 1+i%100), 1+i%100)
	}
	waits(t, s, 0, false)
	popsNone(t, s)
	isNobodys(t, s)
	k := s.Begin()
	steps(t, k, ring.Working)
	turns(t, s, whole(0, 1), whole(100, 1))
	steps(t, k, ring.Working)
	arms(t, s, whole(7, 2), 2)
	steps(t, k, ring.Held)
	waits(t, s, 1, false)
	// A full ring has no say in what is armed.
	steps(t, s.Begin(), ring.Working, ring.Full)
	arms(t, s, whole(8, 2), 2)
	turns(t, s, whole(1, 2), whole(101, 2), whole(7, 2), whole(8, 2))
	wheelIs(t, s, 2, 196, 3)
	if s.Lock().Turns() != 0 {
		t.Error("the lock was taken")
	}
}

// P13.2

func TestArmAtEachTime(t *testing.T) {
	for _, now := range starts() {
		for _, by := range ahead() {
			b := newBench(t, 1, now)
			b.arm(b.task(later(now, by)))
			b.check()
			b.arm(b.task(now - min(now, by)))
			b.check()
			b.turn()
			b.check()
			b.arm(b.task(later(now, by)))
			b.check()
			b.turn()
			b.check()
		}
	}
}

func TestArmBehindTurns(t *testing.T) {
	s := made(t, 1)
	for range 70 {
		turns(t, s)
	}
	for _, q := range []struct{ deadline, want uint64 }{
		{0, 71}, {1, 71}, {63, 71}, {64, 71}, {69, 71}, {70, 71}, {71, 71}, {72, 72}, {127, 127}, {128, 128},
		{top - 1, top - 1}, {top, top},
	} {
		arms(t, s, whole(q.deadline, q.deadline), q.want)
	}
	wheelIs(t, s, 70, 12, 71)
	turns(t, s, whole(0, 71), whole(1, 71), whole(63, 71), whole(64, 71), whole(69, 71), whole(70, 71), whole(71, 71))
	turns(t, s, whole(72, 72))
	wheelIs(t, s, 72, 4, 127)
}

func TestArmRefusesASlotBelow0(t *testing.T) {
	for _, now := range starts() {
		s := from(t, now)
		for _, slot := range []int{-1, -2, -64, -1 << 32, math.MinInt + 1, math.MinInt} {
			for _, deadline := range []uint64{0, now, later(now, 1), later(now, 64), top} {
				task := whole(3, deadline)
				task.Slot = slot
				// At the end of time both errors apply: this one is the first.
				refuses(t, s, task, api.ErrInvalid)
			}
		}
		wheelIs(t, s, now, 0, 0)
	}
}

func TestARefusedArmChangesNothing(t *testing.T) {
	s := made(t, 1)
	arms(t, s, whole(1, 2), 2)
	refuses(t, s, api.Task{Id: 2, Slot: -1, Deadline: 1}, api.ErrInvalid)
	refuses(t, s, api.Task{Id: 3, Slot: -1}, api.ErrInvalid)
	wheelIs(t, s, 0, 1, 2)
	turns(t, s)
	turns(t, s, whole(1, 2))
	turns(t, s)
}

func TestArmTakesAnySlotFrom0(t *testing.T) {
	for _, slot := range []int{0, 1, 63, 64, 65, 1 << 32, math.MaxInt} {
		s := made(t, 1)
		arms(t, s, api.Task{Slot: slot}, 1)
		turns(t, s, api.Task{Slot: slot, Deadline: 1})
	}
}

// TestTheDeadlineToldIsTheOneItComesDueWith: all else of a task is as it was given.
func TestTheDeadlineToldIsTheOneItComesDueWith(t *testing.T) {
	s := made(t, 1)
	armed := map[uint64]api.Task{}
	for id := uint64(1); s.Now() < 300; {
		now := s.Now()
		for _, deadline := range []uint64{0, now / 2, now, now + 1, now + 3, now + 70} {
			task := whole(id, deadline)
			task.Deadline, _ = s.Arm(task)
			armed[id] = task
			id++
		}
		due, _ := s.Turn()
		for _, task := range due {
			if task != armed[task.Id] || task.Deadline != s.Now() {
				t.Errorf("at %d %v is due, armed was %v", s.Now(), task, armed[task.Id])
			}
			delete(armed, task.Id)
		}
	}
	for _, task := range armed {
		if task.Deadline <= s.Now() {
			t.Errorf("never due: %v", task)
		}
	}
}

func TestAllFieldsAtTheirEnds(t *testing.T) {
	s := made(t, 1)
	tasks := []api.Task{
		{Deadline: 1},
		{Id: top, Slot: math.MaxInt, Gen: top, Deadline: 1, Period: top},
		{Id: 1, Deadline: 1},
		{Slot: 1, Deadline: 1},
		{Gen: 1, Deadline: 1},
		{Period: 1, Deadline: 1},
		// The same one twice is two.
		{Period: 1, Deadline: 1},
	}
	for _, task := range tasks {
		arms(t, s, task, 1)
	}
	turns(t, s, tasks...)
	wheelIs(t, s, 1, 0, 0)
}

func TestTurnOfAnEmptyWheel(t *testing.T) {
	s := made(t, 1)
	for now := range uint64(5000) {
		wheelIs(t, s, now, 0, 0)
		turns(t, s)
	}
	waits(t, s, 0, false)
}

func TestTurnOfOneDeadlineInOrder(t *testing.T) {
	// Whatever the level at which a task is armed: the order is that in which they were.
	for _, deadline := range []uint64{1, 63, 64, 65, 127, 128, 4095, 4096, 4097, 4096*3 + 64*5} {
		s := made(t, 1)
		var want []api.Task
		for now := range deadline {
			if now == 0 || deadline-now < 70 || now%500 == 0 {
				id := 10_000 - uint64(len(want))
				arms(t, s, whole(id, deadline), deadline)
				want = append(want, whole(id, deadline))
			}
			if now+1 < deadline {
				turns(t, s)
			}
		}
		arms(t, s, whole(5, 0), deadline)
		turns(t, s, append(want, whole(5, deadline))...)
		wheelIs(t, s, deadline, 0, 0)
	}
}

func TestTurnOfAllLevels(t *testing.T) {
	deadlines := []uint64{
		64*64*64 + 4097, 1, 2, 63, 64, 64 * 64 * 64, 65, 66, 4095, 64*64*64 - 1, 4096, 127, 4097, 8192, 64*64*64 + 1, 64*64*64 + 64,
	}
	b := newBench(t, 1, 0)
	for range 2 {
		for _, deadline := range deadlines {
			b.arm(b.task(deadline))
		}
	}
	b.check()
	for len(b.armed) > 0 && !t.Failed() {
		b.turn()
		b.checkWheel()
	}
	b.until(64*64*64 + 5000)
	b.check()
}

func TestTurnOfWhatLiesBeyond(t *testing.T) {
	for _, start := range []uint64{far - 2, 3*far - 4100, 1<<60 - 1, 7*far - 64*64*64 - 1} {
		b := newBench(t, 1, start)
		for _, by := range []uint64{64*64*64 + 10, 5000, 4100, 70, 3, 2, 1, 64*64*64 + 10, far, 2 * far, 5000, 2, top} {
			b.arm(b.task(later(start, by)))
		}
		b.check()
		b.until(start + 64*64*64 + 20)
		b.check()
		if len(b.armed) != 3 {
			t.Errorf("from %d on: %v are left", start, b.armed)
		}
	}
}

// TestTurnOfTheFirstThatLiesBeyond turns a new shard all the way through its wheel's levels.
func TestTurnOfTheFirstThatLiesBeyond(t *testing.T) {
	s := made(t, 1)
	arms(t, s, whole(1, far+1), far+1)
	arms(t, s, whole(2, far), far)
	arms(t, s, whole(3, far+1), far+1)
	for s.Now() < far-1 {
		if due, err := s.Turn(); len(due) > 0 || err != api.OK {
			t.Fatalf("Turn to %d: %v, %d", s.Now(), due, err)
		}
	}
	wheelIs(t, s, far-1, 3, far)
	turns(t, s, whole(2, far))
	wheelIs(t, s, far, 2, far+1)
	turns(t, s, whole(1, far+1), whole(3, far+1))
	wheelIs(t, s, far+1, 0, 0)
}

func TestTheEndOfTime(t *testing.T) {
	s := from(t, top-2)
	arms(t, s, whole(1, top), top)
	arms(t, s, whole(2, 0), top-1)
	turns(t, s, whole(2, top-1))
	arms(t, s, whole(3, 0), top)
	arms(t, s, whole(4, top-1), top)
	arms(t, s, whole(5, top), top)
	turns(t, s, whole(1, top), whole(3, top), whole(4, top), whole(5, top))
	for range 3 {
		for _, deadline := range []uint64{0, 1, top - 1, top} {
			refuses(t, s, whole(6, deadline), api.ErrOver)
		}
		if due, err := s.Turn(); len(due) > 0 || err != api.ErrOver {
			t.Errorf("Turn at the end: %v, %d", due, err)
		}
		wheelIs(t, s, top, 0, 0)
	}
	// The ring and the lock have no time.
	fills(t, held(t, s), whole(7, 7))
	pops(t, s, whole(7, 7))
	s.Lock().Try(1)
	isOf(t, s, 1)
}

func TestWhatTurnAnsweredIsTheCallers(t *testing.T) {
	s := made(t, 1)
	for _, deadline := range []uint64{1, 1, 2, 2, 70} {
		arms(t, s, whole(deadline, deadline), deadline)
	}
	first, _ := s.Turn()
	spoil(first)
	wheelIs(t, s, 1, 3, 2)
	second, _ := s.Turn()
	if want := []api.Task{whole(2, 2), whole(2, 2)}; !slices.Equal(second, want) {
		t.Errorf("Turn to 2: %v, want %v", second, want)
	}
	kept := slices.Clone(second)
	spoil(first)
	if !slices.Equal(second, kept) {
		t.Errorf("two answers share memory: %v", second)
	}
	spoil(second)
	arms(t, s, whole(3, 3), 3)
	turns(t, s, whole(3, 3))
	for s.Now() < 69 {
		turns(t, s)
	}
	turns(t, s, whole(70, 70))
}

// spoil writes over a list, and over its spare room.
func spoil(l []api.Task) {
	l = l[:cap(l)]
	for i := range l {
		l[i] = api.Task{Id: 99, Slot: -9, Gen: 99, Deadline: 99, Period: 99}
	}
}

// P13.3

func TestNextAndArmedBehindEachCall(t *testing.T) {
	s := made(t, 1)
	wheelIs(t, s, 0, 0, 0)
	for i, q := range []struct{ deadline, next uint64 }{
		{1 << 40, 1 << 40}, {top, 1 << 40}, {far, far}, {5000, 5000}, {70, 70}, {71, 70}, {69, 69}, {5, 5}, {6, 5}, {0, 1}, {1, 1},
	} {
		s.Arm(whole(uint64(i), q.deadline))
		wheelIs(t, s, 0, i+1, q.next)
	}
	left := 11
	for now := uint64(1); now <= 5000; now++ {
		due, _ := s.Turn()
		left -= len(due)
		next := far
		for _, deadline := range []uint64{5000, 71, 70, 69, 6, 5} {
			if deadline > now {
				next = deadline
			}
		}
		wheelIs(t, s, now, left, next)
	}
	if left != 3 {
		t.Errorf("%d are left", left)
	}
}

func TestANilShard(t *testing.T) {
	var s *shard.Shard
	for range 2 {
		if l := s.Lock(); l != (*lock.Lock)(nil) {
			t.Errorf("Lock: %v", l)
		}
		if k := s.Begin(); k != nil {
			t.Errorf("Begin: %v", k)
		}
		if s.Begin().Step() != ring.Full || s.Lock().Try(1) {
			t.Error("a nil shard gives something")
		}
		waits(t, s, 0, false)
		popsNone(t, s)
		for _, task := range []api.Task{{}, {Slot: -1}, whole(1, 1), whole(2, top)} {
			refuses(t, s, task, api.ErrNone)
		}
		if due, err := s.Turn(); len(due) > 0 || err != api.ErrNone {
			t.Errorf("Turn: %v, %d", due, err)
		}
		wheelIs(t, s, 0, 0, 0)
	}
}

// P13.4

// TestDueOnceInOrder arms tasks behind and between turns: each is due once, at its deadline, and in order.
func TestDueOnceInOrder(t *testing.T) {
	for seed := range 20 {
		d, s := dice(seed), made(t, 1)
		told := map[uint64]uint64{}
		var due []api.Task
		last := uint64(0)
		for s.Now() < 3000 {
			if id := uint64(len(told)) + 1; id <= 1000 {
				told[id], _ = s.Arm(whole(id, uint64(d.below(3000))))
				last = max(last, told[id])
			}
			if d.below(3) == 0 {
				now := s.Now() + 1
				l, _ := s.Turn()
				for _, task := range l {
					if task.Deadline != now || s.Now() != now {
						t.Fatalf("at %d %v is due", now, task)
					}
				}
				due = append(due, l...)
			}
		}
		if len(due) != 1000 || last > 3000 {
			t.Fatalf("%d were due, up to %d", len(due), last)
		}
		for i, task := range due {
			if i > 0 && due[i-1].Deadline > task.Deadline {
				t.Errorf("%v is due ahead of %v", due[i-1], task)
			}
			if task != whole(task.Id, told[task.Id]) {
				t.Errorf("%v is due, told was %d", task, told[task.Id])
			}
			delete(told, task.Id)
		}
		if len(told) > 0 {
			t.Errorf("never due: %v", told)
		}
	}
}
