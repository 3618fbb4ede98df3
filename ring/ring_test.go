package ring_test

import (
	"math"
	"strconv"
	"testing"

	"verge/api"
	"verge/ring"
)

// place is a struct whose values can't all be compared: a ring is of any type.
type place struct {
	name string
	at   []int
}

// made is a ring that New must make.
func made[T any](t *testing.T, n int) *ring.Ring[T] {
	t.Helper()
	r, e := ring.New[T](n)
	if r == nil || e != api.OK {
		t.Fatalf("New(%d): %v, %d", n, r, e)
	}
	return r
}

// steps makes a ticket's steps, and holds each answer against what is wanted.
func steps[T any](t *testing.T, k *ring.Ticket[T], want ...ring.Status) {
	t.Helper()
	for i, w := range want {
		if s := k.Step(); s != w {
			t.Errorf("step %d: %d, want %d", i, s, w)
		}
	}
}

// held is a ticket that worked alone and holds a position.
func held[T any](t *testing.T, r *ring.Ring[T]) *ring.Ticket[T] {
	t.Helper()
	k := r.Begin()
	steps(t, k, ring.Working, ring.Working, ring.Held)
	return k
}

// fills publishes a ticket's position, which must be there to be published.
func fills[T any](t *testing.T, k *ring.Ticket[T], v T) {
	t.Helper()
	if e := k.Fill(v); e != api.OK {
		t.Errorf("Fill(%v): %d", v, e)
	}
}

// refuses asks for a fill that may not be.
func refuses[T any](t *testing.T, k *ring.Ticket[T], v T) {
	t.Helper()
	if e := k.Fill(v); e != api.ErrState {
		t.Errorf("Fill(%v): %d, want ErrState", v, e)
	}
}

// pops takes out a thing, which must be this one.
func pops[T comparable](t *testing.T, r *ring.Ring[T], want T) {
	t.Helper()
	if v, e := r.Pop(); v != want || e != api.OK {
		t.Errorf("Pop: %v, %d, want %v", v, e, want)
	}
}

// popsNone asks for a thing where the first position isn't published.
func popsNone[T comparable](t *testing.T, r *ring.Ring[T]) {
	t.Helper()
	var zero T
	if v, e := r.Pop(); v != zero || e != api.ErrNone {
		t.Errorf("Pop: %v, %d, want none", v, e)
	}
}

// stands holds what a ring tells of itself against what is wanted.
func stands[T any](t *testing.T, r *ring.Ring[T], length int, ready bool) {
	t.Helper()
	if n, is := r.Len(), r.Ready(); n != length || is != ready {
		t.Errorf("Len, Ready: %d, %t, want %d, %t", n, is, length, ready)
	}
}

// P4.1

func TestStatuses(t *testing.T) {
	if ring.Working != 0 || ring.Full != 1 || ring.Held != 2 {
		t.Error(ring.Working, ring.Full, ring.Held)
	}
}

func TestNew(t *testing.T) {
	for _, n := range []int{0, -1, -2, -64, 65, 66, 128, 1 << 32, math.MinInt, math.MaxInt} {
		if r, e := ring.New[int](n); r != nil || e != api.ErrRange {
			t.Errorf("New(%d): %v, %d", n, r, e)
		}
	}
	for n := 1; n <= 64; n++ {
		r := made[int](t, n)
		stands(t, r, 0, false)
		popsNone(t, r)
		stands(t, r, 0, false)
	}
}

func TestEveryRoom(t *testing.T) {
	for n := 1; n <= 64; n++ {
		r := made[int](t, n)
		var all []*ring.Ticket[int]
		for i := range n {
			stands(t, r, i, false)
			all = append(all, held(t, r))
		}
		full := r.Begin()
		steps(t, full, ring.Working, ring.Full)
		stands(t, r, n, false)
		// Published or not, what isn't popped takes room.
		for i, k := range all {
			fills(t, k, 100+i)
			stands(t, r, n, true)
		}
		steps(t, r.Begin(), ring.Working, ring.Full)
		for i := range n {
			pops(t, r, 100+i)
			stands(t, r, n-i-1, i < n-1)
		}
		popsNone(t, r)
		steps(t, full, ring.Full)
		stands(t, r, 0, false)
	}
}

func TestBeginTakesNothing(t *testing.T) {
	r := made[int](t, 1)
	a, b := r.Begin(), r.Begin()
	if a == nil || b == nil || a == b {
		t.Fatal("two tickets")
	}
	for range 100 {
		r.Begin()
	}
	stands(t, r, 0, false)
	refuses(t, a, 1)
	steps(t, a, ring.Working)
	stands(t, r, 0, false)
	refuses(t, a, 2)
	steps(t, a, ring.Working)
	stands(t, r, 0, false)
	refuses(t, a, 3)
	steps(t, a, ring.Held)
	stands(t, r, 1, false)
	steps(t, b, ring.Working, ring.Full)
}

func TestPositionTakenByThen(t *testing.T) {
	r := made[int](t, 3)
	a, b := r.Begin(), r.Begin()
	// Both looked at one position, and saw that there is room: who comes second begins anew.
	steps(t, a, ring.Working, ring.Working)
	steps(t, b, ring.Working, ring.Working)
	steps(t, b, ring.Held)
	steps(t, a, ring.Working)
	stands(t, r, 1, false)
	refuses(t, a, 9)
	steps(t, a, ring.Working, ring.Working, ring.Held)
	stands(t, r, 2, false)
	fills(t, a, 2)
	stands(t, r, 2, false)
	fills(t, b, 1)
	pops(t, r, 1)
	pops(t, r, 2)
}

func TestPositionTakenAheadOfTheLook(t *testing.T) {
	r := made[int](t, 2)
	a := r.Begin()
	steps(t, a, ring.Working)
	b := held(t, r)
	// It is taken, and not published: a goes on, and finds it taken in its third step.
	steps(t, a, ring.Working, ring.Working)
	stands(t, r, 1, false)
	fills(t, b, 5)
	steps(t, a, ring.Working, ring.Working, ring.Held)
	stands(t, r, 2, true)
}

func TestPositionPublishedAheadOfTheLook(t *testing.T) {
	r := made[int](t, 2)
	a := r.Begin()
	steps(t, a, ring.Working)
	fills(t, held(t, r), 5)
	// Its second step begins anew, so that it holds a position behind three more.
	steps(t, a, ring.Working)
	steps(t, a, ring.Working, ring.Working, ring.Held)
	fills(t, a, 6)
	pops(t, r, 5)
	pops(t, r, 6)
}

func TestPositionPoppedAheadOfTheLook(t *testing.T) {
	for n := 1; n <= 5; n++ {
		for gone := 1; gone <= 3*n+1; gone++ {
			r := made[int](t, n)
			a := r.Begin()
			steps(t, a, ring.Working)
			for i := range gone {
				fills(t, held(t, r), i)
				pops(t, r, i)
			}
			steps(t, a, ring.Working)
			steps(t, a, ring.Working, ring.Working, ring.Held)
			stands(t, r, 1, false)
			fills(t, a, 77)
			pops(t, r, 77)
		}
	}
}

func TestPositionTakenFilledOrPoppedAheadOfTheTaking(t *testing.T) {
	for kind := range 3 {
		r := made[int](t, 2)
		a := r.Begin()
		steps(t, a, ring.Working, ring.Working)
		b := held(t, r)
		if kind > 0 {
			fills(t, b, 5)
		}
		if kind > 1 {
			pops(t, r, 5)
		}
		steps(t, a, ring.Working)
		refuses(t, a, 9)
		steps(t, a, ring.Working, ring.Working, ring.Held)
	}
}

func TestPoppedMeanwhileIsRoom(t *testing.T) {
	r := made[int](t, 1)
	fills(t, held(t, r), 1)
	a := r.Begin()
	steps(t, a, ring.Working)
	// What counts is what isn't popped when the ticket looks at its position.
	pops(t, r, 1)
	steps(t, a, ring.Working, ring.Held)
}

func TestPublishedIsAskedAheadOfFull(t *testing.T) {
	r := made[int](t, 1)
	a := r.Begin()
	steps(t, a, ring.Working)
	fills(t, held(t, r), 1)
	// The ring has no room; but a's own position is published, so it begins anew, and is full then.
	steps(t, a, ring.Working, ring.Working, ring.Full)
	pops(t, r, 1)
	steps(t, a, ring.Full)
}

func TestHeldIsNotFull(t *testing.T) {
	r := made[int](t, 1)
	a := r.Begin()
	steps(t, a, ring.Working)
	held(t, r)
	// None is taken ahead of a's position: it goes on, finds that taken, looks anew, and is full.
	steps(t, a, ring.Working, ring.Working, ring.Working, ring.Full)
	stands(t, r, 1, false)
}

func TestNoStepAnyMore(t *testing.T) {
	r := made[int](t, 1)
	a := held(t, r)
	b := r.Begin()
	steps(t, b, ring.Working, ring.Full, ring.Full, ring.Full)
	steps(t, a, ring.Held, ring.Held, ring.Held, ring.Held)
	stands(t, r, 1, false)
	fills(t, a, 4)
	steps(t, a, ring.Held, ring.Held, ring.Held)
	steps(t, b, ring.Full, ring.Full, ring.Full)
	stands(t, r, 1, true)
	pops(t, r, 4)
	// Room there is again, but neither of these two goes on.
	steps(t, a, ring.Held, ring.Held, ring.Held, ring.Held)
	steps(t, b, ring.Full, ring.Full, ring.Full, ring.Full)
	stands(t, r, 0, false)
	refuses(t, a, 5)
	refuses(t, b, 6)
	popsNone(t, r)
	held(t, r)
	stands(t, r, 1, false)
}

// P4.2

func TestFill(t *testing.T) {
	r := made[int](t, 2)
	a := held(t, r)
	b := held(t, r)
	full := r.Begin()
	steps(t, full, ring.Working, ring.Full)
	refuses(t, full, 1)
	fills(t, b, 20)
	refuses(t, b, 21)
	stands(t, r, 2, false)
	popsNone(t, r)
	fills(t, a, 10)
	refuses(t, a, 11)
	refuses(t, a, 10)
	stands(t, r, 2, true)
	pops(t, r, 10)
	refuses(t, a, 12)
	pops(t, r, 20)
	refuses(t, b, 22)
	stands(t, r, 0, false)
	// Who filled once has no hold on what comes behind it in its seat.
	c, d := held(t, r), held(t, r)
	refuses(t, a, 13)
	refuses(t, b, 23)
	popsNone(t, r)
	fills(t, c, 30)
	fills(t, d, 40)
	refuses(t, a, 14)
	refuses(t, b, 24)
	pops(t, r, 30)
	pops(t, r, 40)
}

func TestPopWaitsForTheFirst(t *testing.T) {
	r := made[string](t, 3)
	a, b, c := held(t, r), held(t, r), held(t, r)
	fills(t, c, "c")
	stands(t, r, 3, false)
	popsNone(t, r)
	fills(t, b, "b")
	stands(t, r, 3, false)
	popsNone(t, r)
	popsNone(t, r)
	fills(t, a, "a")
	stands(t, r, 3, true)
	pops(t, r, "a")
	stands(t, r, 2, true)
	// A position that is held ahead of nothing else lets nothing by, either.
	d := held(t, r)
	pops(t, r, "b")
	pops(t, r, "c")
	stands(t, r, 1, false)
	popsNone(t, r)
	fills(t, d, "d")
	stands(t, r, 1, true)
	pops(t, r, "d")
	popsNone(t, r)
	stands(t, r, 0, false)
}

func TestReadyAndLenTellOnly(t *testing.T) {
	r := made[int](t, 2)
	a := r.Begin()
	for i, want := range []ring.Status{ring.Working, ring.Working, ring.Held} {
		for range 5 {
			stands(t, r, 0, false)
		}
		if s := a.Step(); s != want {
			t.Errorf("step %d: %d", i, s)
		}
	}
	fills(t, a, 8)
	for range 5 {
		stands(t, r, 1, true)
	}
	pops(t, r, 8)
}

func TestZeroThingsAreThings(t *testing.T) {
	r := made[int](t, 1)
	fills(t, held(t, r), 0)
	stands(t, r, 1, true)
	pops(t, r, 0)
	popsNone(t, r)
	// A zero thing stands beside ErrNone, whatever lay there.
	fills(t, held(t, r), 7)
	pops(t, r, 7)
	k := held(t, r)
	popsNone(t, r)
	fills(t, k, 0)
	pops(t, r, 0)
}

func TestRingOfStructs(t *testing.T) {
	r := made[place](t, 2)
	a, b := held(t, r), held(t, r)
	fills(t, b, place{"b", nil})
	if v, e := r.Pop(); v.name != "" || v.at != nil || e != api.ErrNone {
		t.Error(v, e)
	}
	fills(t, a, place{"a", []int{1, 2}})
	if v, e := r.Pop(); v.name != "a" || len(v.at) != 2 || v.at[1] != 2 || e != api.OK {
		t.Error(v, e)
	}
	if v, e := r.Pop(); v.name != "b" || v.at != nil || e != api.OK {
		t.Error(v, e)
	}
	if v, e := r.Pop(); v.name != "" || v.at != nil || e != api.ErrNone {
		t.Error(v, e)
	}
}

func TestRingOfTasksPointersAndFunctions(t *testing.T) {
	tasks := made[api.Task](t, 1)
	fills(t, held(t, tasks), api.Task{Id: 3, Gen: 2})
	pops(t, tasks, api.Task{Id: 3, Gen: 2})
	popsNone(t, tasks)
	x := 5
	pointers := made[*int](t, 1)
	fills(t, held(t, pointers), &x)
	pops(t, pointers, &x)
	fills(t, held(t, pointers), nil)
	stands(t, pointers, 1, true)
	pops(t, pointers, nil)
	functions := made[func() int](t, 1)
	fills(t, held(t, functions), func() int { return x })
	if f, e := functions.Pop(); e != api.OK || f() != 5 {
		t.Error(e)
	}
	if f, e := functions.Pop(); e != api.ErrNone || f != nil {
		t.Error(e)
	}
}

func TestNilRingAndTicket(t *testing.T) {
	var r *ring.Ring[string]
	if k := r.Begin(); k != nil {
		t.Error("Begin")
	}
	stands(t, r, 0, false)
	popsNone(t, r)
	var k *ring.Ticket[string]
	steps(t, k, ring.Full, ring.Full)
	refuses(t, k, "a")
	steps(t, r.Begin(), ring.Full)
	refuses(t, r.Begin(), "a")
}

func TestZeroRingAndTicket(t *testing.T) {
	// The document says nothing of these two; they end, and don't panic.
	r := new(ring.Ring[int])
	steps(t, r.Begin(), ring.Full)
	stands(t, r, 0, false)
	popsNone(t, r)
	k := new(ring.Ticket[int])
	steps(t, k, ring.Full, ring.Full)
	refuses(t, k, 1)
}

func TestRingsAreApart(t *testing.T) {
	a, b := made[int](t, 1), made[int](t, 1)
	k := held(t, a)
	stands(t, b, 0, false)
	m := held(t, b)
	fills(t, k, 1)
	stands(t, b, 1, false)
	fills(t, m, 2)
	pops(t, b, 2)
	stands(t, a, 1, true)
	pops(t, a, 1)
}

func TestExample(t *testing.T) {
	r := made[int](t, 1)
	a, b := r.Begin(), r.Begin()
	steps(t, a, ring.Working, ring.Working, ring.Held)
	steps(t, b, ring.Working, ring.Full)
	fills(t, a, 42)
	pops(t, r, 42)
}

// P4.3

func TestRoomOfOneGoneRound(t *testing.T) {
	r := made[string](t, 1)
	for i := range 1000 {
		stands(t, r, 0, false)
		k := held(t, r)
		steps(t, r.Begin(), ring.Working, ring.Full)
		popsNone(t, r)
		stands(t, r, 1, false)
		fills(t, k, strconv.Itoa(i))
		steps(t, r.Begin(), ring.Working, ring.Full)
		stands(t, r, 1, true)
		pops(t, r, strconv.Itoa(i))
		refuses(t, k, "again")
	}
}

// model is a ring by the words of the chapter: positions that are taken and popped in order, and what is published.
type model struct {
	room, taken, popped int
	things              map[int]int
}

// hand is a ticket of the model.
type hand struct {
	next, position int
	status         ring.Status
}

func (m *model) ready() bool {
	_, is := m.things[m.popped]
	return is
}

func (m *model) step(h *hand) ring.Status {
	if h.status != ring.Working {
		return h.status
	}
	_, published := m.things[h.position]
	switch {
	case h.next == 0:
		h.position, h.next = m.taken, 1
	case h.next == 1 && published:
		h.next = 0
	case h.next == 1 && h.position-m.popped >= m.room:
		h.status = ring.Full
	case h.next == 1:
		h.next = 2
	case h.position == m.taken:
		m.taken++
		h.status = ring.Held
	default:
		h.next = 0
	}
	return h.status
}

func (m *model) fill(h *hand, v int) api.Errno {
	if _, published := m.things[h.position]; h.status != ring.Held || published {
		return api.ErrState
	}
	m.things[h.position] = v
	return api.OK
}

func (m *model) pop() (int, api.Errno) {
	if !m.ready() {
		return 0, api.ErrNone
	}
	m.popped++
	return m.things[m.popped-1], api.OK
}

// pair is a ring beside its model, with some tickets of both.
type pair struct {
	r       *ring.Ring[int]
	m       *model
	tickets []*ring.Ticket[int]
	hands   []*hand
	filled  int
}

func paired(t *testing.T, room, tickets int) *pair {
	p := &pair{r: made[int](t, room), m: &model{room: room, things: map[int]int{}}}
	for range tickets {
		p.tickets = append(p.tickets, p.r.Begin())
		p.hands = append(p.hands, &hand{})
	}
	return p
}

// calls is how many different calls do knows.
func (p *pair) calls() int { return 2*len(p.tickets) + 1 }

// do makes one call of both: a step or a fill of a ticket, or a pop.
func (p *pair) do(call int) bool {
	i, same := call/2, true
	switch {
	case call == p.calls()-1:
		v, e := p.r.Pop()
		w, f := p.m.pop()
		same = v == w && e == f
	case call%2 == 0:
		same = p.tickets[i].Step() == p.m.step(p.hands[i])
	default:
		p.filled++
		same = p.tickets[i].Fill(p.filled) == p.m.fill(p.hands[i], p.filled)
	}
	n := p.r.Len()
	return same && n == p.m.taken-p.m.popped && n <= p.m.room && p.r.Ready() == p.m.ready()
}

// renew lets a ticket be a new one, if it makes no step any more, and holds nothing that is to be filled.
func (p *pair) renew(i int) {
	h := p.hands[i]
	_, published := p.m.things[h.position]
	if h.status == ring.Full || h.status == ring.Held && published {
		p.tickets[i], p.hands[i] = p.r.Begin(), &hand{}
	}
}

func TestEveryRowOfCalls(t *testing.T) {
	for _, c := range []struct{ room, tickets, length int }{{1, 2, 8}, {2, 2, 8}, {1, 3, 6}, {2, 3, 6}} {
		rows := 1
		for range c.length {
			rows *= 2*c.tickets + 1
		}
		for row := range rows {
			p := paired(t, c.room, c.tickets)
			for at, rest := 0, row; at < c.length; at, rest = at+1, rest/p.calls() {
				if !p.do(rest % p.calls()) {
					t.Fatalf("room %d, %d tickets, row %d: call %d", c.room, c.tickets, row, at)
				}
			}
		}
	}
}

func TestLongRowsOfCalls(t *testing.T) {
	for _, room := range []int{1, 2, 3, 5, 8, 63, 64} {
		for _, tickets := range []int{1, 2, 3, 7} {
			p := paired(t, room, tickets)
			x := uint64(room*100 + tickets)
			for at := range 20000 {
				x = x*6364136223846793005 + 1442695040888963407
				if !p.do(int(x >> 33 % uint64(p.calls()))) {
					t.Fatalf("room %d, %d tickets: call %d", room, tickets, at)
				}
				p.renew(int(x >> 40 % uint64(tickets)))
			}
			if p.m.popped < 300 {
				t.Errorf("room %d, %d tickets: only %d popped", room, tickets, p.m.popped)
			}
		}
	}
}

// fillOther publishes what one of the tickets holds, from a given one on, with its number.
func fillOther(all []*ring.Ticket[int], from, number int) {
	for i := range all {
		at := (from + i) % len(all)
		if all[at].Fill(number+at) == api.OK {
			return
		}
	}
}

func TestEachOnceInOrder(t *testing.T) {
	for _, room := range []int{1, 2, 3, 64} {
		r := made[int](t, room)
		put, popped, x := 0, 0, uint64(room)
		for put < 2000 {
			var all []*ring.Ticket[int]
			for range room {
				all = append(all, held(t, r))
			}
			// Positions are taken in one order, and published in another one.
			for range all {
				x = x*6364136223846793005 + 1442695040888963407
				fillOther(all, int(x>>33%uint64(room)), put)
				for range room {
					if r.Ready() {
						pops(t, r, popped)
						popped++
					}
				}
			}
			put += room
			stands(t, r, 0, false)
		}
		if put != popped {
			t.Errorf("room %d: %d put, %d popped", room, put, popped)
		}
	}
}

func TestAloneBehindThreeSteps(t *testing.T) {
	for n := 1; n <= 8; n++ {
		for taken := 0; taken <= n; taken++ {
			r := made[int](t, n)
			for range taken {
				held(t, r)
			}
			k := r.Begin()
			k.Step()
			k.Step()
			want := ring.Held
			if taken == n {
				want = ring.Full
			}
			steps(t, k, want)
		}
	}
}
