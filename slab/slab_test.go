package slab_test

import (
	"math"
	"testing"

	"verge/api"
	"verge/slab"
	"verge/word"
)

// made is a slab that New must make.
func made(t *testing.T, n int) *slab.Slab {
	t.Helper()
	s, e := slab.New(n)
	if s == nil || e != api.OK {
		t.Fatalf("New(%d): %v, %d", n, s, e)
	}
	return s
}

// steps makes a request's steps, and holds each answer against what is wanted.
func steps(t *testing.T, r *slab.Request, want ...slab.Status) {
	t.Helper()
	for i, w := range want {
		if s := r.Step(); s != w {
			t.Errorf("step %d: %d, want %d", i, s, w)
		}
	}
}

// held is a request that holds the record of a slot: it looked at all those ahead of it.
func held(t *testing.T, s *slab.Slab, period uint64, slot int) *slab.Request {
	t.Helper()
	r := s.Begin(period)
	for range slot + 2 {
		steps(t, r, slab.Working)
	}
	steps(t, r, slab.Held)
	return r
}

// is holds a request's number against what is wanted.
func is(t *testing.T, r *slab.Request, want uint64) {
	t.Helper()
	if id, e := r.Id(); id != want || e != api.OK {
		t.Errorf("Id: %d, %d, want %d", id, e, want)
	}
}

// isNone asks a request that holds nothing for its number.
func isNone(t *testing.T, r *slab.Request) {
	t.Helper()
	if id, e := r.Id(); id != 0 || e != api.ErrState {
		t.Errorf("Id: %d, %d, want ErrState", id, e)
	}
}

// counts holds the count against what is wanted.
func counts(t *testing.T, s *slab.Slab, want int) {
	t.Helper()
	if n := s.Count(); n != want {
		t.Errorf("Count: %d, want %d", n, want)
	}
}

// goes lets events happen to a slot's word, one behind the other.
func goes(t *testing.T, s *slab.Slab, slot int, events ...int) word.Word {
	t.Helper()
	w, e := s.Word(slot)
	for _, event := range events {
		if e != api.OK {
			t.Fatalf("slot %d: %d", slot, e)
		}
		w, e = s.Try(slot, w, event)
	}
	if e != api.OK {
		t.Fatalf("slot %d: %d", slot, e)
	}
	return w
}

// packed is a word that may be.
func packed(t *testing.T, state api.State, gen uint64, last bool) word.Word {
	t.Helper()
	w, e := word.Pack(state, gen, last)
	if e != api.OK {
		t.Fatal(state, gen, e)
	}
	return w
}

func TestExample(t *testing.T) {
	s := made(t, 1)
	r := s.Begin(0)
	steps(t, r, slab.Working, slab.Working, slab.Held)
	is(t, r, 64)
	other := s.Begin(0)
	steps(t, other, slab.Full)
	goes(t, s, 0, word.Submit, word.Cancel, word.Release)
	if e := s.Drop(); e != api.OK {
		t.Error(e)
	}
	next := s.Begin(0)
	steps(t, next, slab.Working, slab.Working, slab.Held)
	is(t, next, 128)
	steps(t, other, slab.Full)
	is(t, r, 64)
}

// P9.1

func TestStatuses(t *testing.T) {
	if slab.Working != 0 || slab.Full != 1 || slab.Held != 2 {
		t.Error(slab.Working, slab.Full, slab.Held)
	}
}

func TestNew(t *testing.T) {
	for _, n := range []int{0, -1, -2, -64, 65, 66, 128, 1 << 32, 1<<32 + 1, math.MinInt, math.MaxInt} {
		if s, e := slab.New(n); s != nil || e != api.ErrRange {
			t.Errorf("New(%d): %v, %d", n, s, e)
		}
	}
	for n := 1; n <= 64; n++ {
		newBench(t, n).check()
	}
}

func TestEveryRoom(t *testing.T) {
	for n := 1; n <= 64; n++ {
		b := newBench(t, n)
		for slot := range n {
			a := b.begin(uint64(slot % 3))
			for range slot + 2 {
				if b.step(a) != slab.Working {
					t.Fatal("too early", n, slot)
				}
			}
			if b.step(a) != slab.Held {
				t.Fatal("too late", n, slot)
			}
			is(t, a.r, uint64(64+slot))
			counts(t, b.s, slot+1)
		}
		if b.step(b.begin(5)) != slab.Full {
			t.Error("not full", n)
		}
		b.check()
	}
}

func TestBeginMakesNoStep(t *testing.T) {
	s := made(t, 1)
	a, b := s.Begin(1), s.Begin(1)
	if a == nil || b == nil || a == b {
		t.Fatal("two requests")
	}
	for range 100 {
		s.Begin(2)
	}
	counts(t, s, 0)
	isNone(t, a)
	if w, e := s.Word(0); w != 0 || e != api.OK || s.Period(0) != 0 {
		t.Error(w, e, s.Period(0))
	}
	steps(t, a, slab.Working, slab.Working, slab.Held)
	steps(t, b, slab.Full)
}

func TestStepByStep(t *testing.T) {
	s := made(t, 2)
	r := s.Begin(9)
	steps(t, r, slab.Working)
	// It looked at the count, and changed nothing.
	counts(t, s, 0)
	isNone(t, r)
	steps(t, r, slab.Working)
	// Room is counted for it, but no slot is its own.
	counts(t, s, 1)
	isNone(t, r)
	if w, _ := s.Word(0); w != 0 || s.Period(0) != 0 || s.Mine(64) {
		t.Error(w, s.Period(0))
	}
	steps(t, r, slab.Held)
	counts(t, s, 1)
	is(t, r, 64)
	if w, _ := s.Word(0); w != packed(t, api.Pending, 1, false) || s.Period(0) != 9 || !s.Mine(64) {
		t.Error(w, s.Period(0))
	}
	if w, _ := s.Word(1); w != 0 || s.Period(1) != 0 || s.Mine(65) {
		t.Error(w, s.Period(1))
	}
}

func TestCountIsAnotherByThen(t *testing.T) {
	s := made(t, 3)
	a, b := s.Begin(0), s.Begin(0)
	steps(t, a, slab.Working)
	steps(t, b, slab.Working, slab.Working)
	// a looked at 0; it is 1: a begins anew, and its next step looks at the count again.
	steps(t, a, slab.Working)
	counts(t, s, 1)
	steps(t, a, slab.Working)
	counts(t, s, 1)
	steps(t, a, slab.Working)
	counts(t, s, 2)
	steps(t, a, slab.Held)
	is(t, a, 64)
	steps(t, b, slab.Working, slab.Held)
	is(t, b, 65)
}

func TestCountIsLessByThen(t *testing.T) {
	s := made(t, 2)
	held(t, s, 0, 0)
	a := s.Begin(0)
	steps(t, a, slab.Working)
	goes(t, s, 0, word.Finish)
	s.Drop()
	steps(t, a, slab.Working)
	counts(t, s, 0)
	steps(t, a, slab.Working, slab.Working, slab.Held)
	counts(t, s, 1)
	is(t, a, 128)
}

func TestCountIsTheSameAgain(t *testing.T) {
	s := made(t, 2)
	held(t, s, 0, 0)
	a := s.Begin(0)
	steps(t, a, slab.Working)
	// Another one comes and goes: the count is what a looked at, and that alone is asked.
	held(t, s, 0, 1)
	goes(t, s, 1, word.Finish)
	s.Drop()
	steps(t, a, slab.Working)
	counts(t, s, 2)
	steps(t, a, slab.Working, slab.Held)
	is(t, a, 129)
}

func TestFullBehindBeginningAnew(t *testing.T) {
	s := made(t, 1)
	a, b := s.Begin(0), s.Begin(0)
	steps(t, a, slab.Working)
	steps(t, b, slab.Working, slab.Working)
	steps(t, a, slab.Working, slab.Full, slab.Full)
	isNone(t, a)
	steps(t, b, slab.Held)
	is(t, b, 64)
}

func TestFullIsTheCountNotTheRecords(t *testing.T) {
	s := made(t, 1)
	a := s.Begin(0)
	steps(t, a, slab.Working, slab.Working)
	// No record is held yet; but the count is n.
	steps(t, s.Begin(0), slab.Full)
	steps(t, a, slab.Held)
	// A record that is free, but not dropped, is still counted.
	goes(t, s, 0, word.Finish)
	steps(t, s.Begin(0), slab.Full)
	s.Drop()
	steps(t, s.Begin(0), slab.Working)
}

func TestOneSlotAStepAndRound(t *testing.T) {
	s := made(t, 3)
	for slot := range 3 {
		held(t, s, 0, slot)
	}
	// Dropped ahead of being free: so a request finds no free slot for a while.
	s.Drop()
	r := s.Begin(4)
	steps(t, r, slab.Working, slab.Working)
	counts(t, s, 3)
	// 0, 1, 2, and at 0 again.
	steps(t, r, slab.Working, slab.Working)
	goes(t, s, 0, word.Finish)
	goes(t, s, 1, word.Finish)
	steps(t, r, slab.Working, slab.Held)
	is(t, r, 128)
	if s.Period(0) != 4 || s.Period(1) != 0 || s.Mine(64) || !s.Mine(65) || !s.Mine(128) {
		t.Error(s.Period(0), s.Period(1))
	}
	counts(t, s, 3)
}

func TestLooksAtOneSlotForEver(t *testing.T) {
	s := made(t, 1)
	held(t, s, 0, 0)
	s.Drop()
	r := s.Begin(0)
	for range 100 {
		steps(t, r, slab.Working)
	}
	isNone(t, r)
	counts(t, s, 1)
	goes(t, s, 0, word.Finish)
	steps(t, r, slab.Held)
	is(t, r, 128)
}

func TestEachRequestLooksFromZero(t *testing.T) {
	s := made(t, 3)
	for slot := range 3 {
		held(t, s, 0, slot)
	}
	goes(t, s, 1, word.Finish)
	s.Drop()
	goes(t, s, 0, word.Finish)
	s.Drop()
	is(t, held(t, s, 0, 0), 128)
	is(t, held(t, s, 0, 1), 129)
}

func TestJustFreeRecordsAreTaken(t *testing.T) {
	rows := map[string][]int{
		"pending":   {},
		"queued":    {word.Submit},
		"in wheel":  {word.Submit, word.Enter},
		"claimed":   {word.Submit, word.Enter, word.Claim},
		"cancelled": {word.Submit, word.Cancel},
		"done":      {word.Submit, word.Enter, word.Claim, word.Finish},
	}
	for name, events := range rows {
		s := made(t, 2)
		held(t, s, 0, 0)
		w := goes(t, s, 0, events...)
		r := held(t, s, 0, 1)
		is(t, r, 65)
		if x, e := s.Word(0); x != w || e != api.OK {
			t.Error(name, x, e)
		}
	}
}

func TestNoStepAnyMore(t *testing.T) {
	s := made(t, 1)
	a := held(t, s, 7, 0)
	b := s.Begin(8)
	steps(t, b, slab.Full, slab.Full, slab.Full)
	steps(t, a, slab.Held, slab.Held, slab.Held)
	counts(t, s, 1)
	goes(t, s, 0, word.Finish)
	s.Drop()
	// Room there is again, but neither of these two goes on.
	steps(t, a, slab.Held, slab.Held, slab.Held, slab.Held)
	steps(t, b, slab.Full, slab.Full, slab.Full, slab.Full)
	counts(t, s, 0)
	is(t, a, 64)
	isNone(t, b)
	if w, e := s.Word(0); w != packed(t, api.Free, 1, false) || e != api.OK || s.Period(0) != 7 {
		t.Error(w, e, s.Period(0))
	}
}

func TestIdStaysWhenTheSlotIsGivenAgain(t *testing.T) {
	s := made(t, 1)
	var all []*slab.Request
	for range 5 {
		all = append(all, held(t, s, 0, 0))
		goes(t, s, 0, word.Finish)
		s.Drop()
	}
	for i, r := range all {
		is(t, r, uint64(64*(i+1)))
	}
}

func TestSlabsAreApart(t *testing.T) {
	a, b := made(t, 2), made(t, 2)
	held(t, a, 3, 0)
	counts(t, b, 0)
	if w, _ := b.Word(0); w != 0 || b.Period(0) != 0 || b.Mine(64) {
		t.Error(w)
	}
	is(t, held(t, b, 0, 0), 64)
	if a.Period(0) != 3 {
		t.Error(a.Period(0))
	}
}

// P9.2

func TestSlotAndMine(t *testing.T) {
	s := made(t, 3)
	held(t, s, 0, 0)
	held(t, s, 0, 1)
	goes(t, s, 0, word.Submit, word.Cancel, word.Release)
	s.Drop()
	held(t, s, 0, 0)
	rows := []struct {
		id   uint64
		slot int
		e    api.Errno
		mine bool
	}{
		{64, 0, api.OK, false},
		{128, 0, api.OK, true},
		{192, 0, api.ErrInvalid, false},
		{65, 1, api.OK, true},
		{129, 0, api.ErrInvalid, false},
		{66, 0, api.ErrInvalid, false}, // a slot that wasn't given
		{67, 0, api.ErrInvalid, false}, // no slot of this slab
		{127, 0, api.ErrInvalid, false},
		{0, 0, api.ErrInvalid, false},
		{1, 0, api.ErrInvalid, false},
		{2, 0, api.ErrInvalid, false},
		{3, 0, api.ErrInvalid, false},
		{63, 0, api.ErrInvalid, false},
		{1 << 63, 0, api.ErrInvalid, false},
		{1<<63 + 128, 0, api.ErrInvalid, false},
		{math.MaxUint64 - 63, 0, api.ErrInvalid, false},
		{math.MaxUint64, 0, api.ErrInvalid, false},
	}
	for _, q := range rows {
		if k, e := s.Slot(q.id); k != q.slot || e != q.e {
			t.Errorf("Slot(%d): %d, %d, want %d, %d", q.id, k, e, q.slot, q.e)
		}
		if m := s.Mine(q.id); m != q.mine {
			t.Errorf("Mine(%d): %t", q.id, m)
		}
	}
}

func TestMineUntilGivenAgain(t *testing.T) {
	s := made(t, 1)
	held(t, s, 0, 0)
	// Released, it is still its own; so it is while another request counts, and looks.
	goes(t, s, 0, word.Submit, word.Cancel, word.Release)
	if !s.Mine(64) {
		t.Error("released")
	}
	s.Drop()
	r := s.Begin(0)
	for range 2 {
		if !s.Mine(64) || s.Mine(128) {
			t.Error("looked at")
		}
		steps(t, r, slab.Working)
	}
	if !s.Mine(64) || s.Mine(128) {
		t.Error("counted")
	}
	steps(t, r, slab.Held)
	if s.Mine(64) || !s.Mine(128) {
		t.Error("given again")
	}
}

func TestEveryNumberOfAGreatSlab(t *testing.T) {
	s := made(t, 64)
	for slot := range 64 {
		is(t, held(t, s, 0, slot), uint64(64+slot))
	}
	for slot := range 64 {
		if k, e := s.Slot(uint64(64 + slot)); k != slot || e != api.OK || !s.Mine(uint64(64+slot)) {
			t.Error(slot, k, e)
		}
		if k, e := s.Slot(uint64(slot)); k != 0 || e != api.ErrInvalid || s.Mine(uint64(slot)) {
			t.Error(slot, k, e)
		}
		if k, e := s.Slot(uint64(128 + slot)); k != 0 || e != api.ErrInvalid || s.Mine(uint64(128+slot)) {
			t.Error(slot, k, e)
		}
	}
	goes(t, s, 63, word.Finish)
	s.Drop()
	is(t, held(t, s, 0, 63), 191)
	if k, e := s.Slot(127); k != 63 || e != api.OK || s.Mine(127) || !s.Mine(191) {
		t.Error(k, e)
	}
}

func TestPeriods(t *testing.T) {
	s := made(t, 3)
	for slot, p := range []uint64{5, 0, math.MaxUint64} {
		held(t, s, p, slot)
	}
	for slot, p := range []uint64{5, 0, math.MaxUint64} {
		if got := s.Period(slot); got != p {
			t.Errorf("Period(%d): %d, want %d", slot, got, p)
		}
	}
	for _, slot := range []int{-1, 3, 4, 63, 64, math.MinInt, math.MaxInt} {
		if got := s.Period(slot); got != 0 {
			t.Errorf("Period(%d): %d", slot, got)
		}
	}
	// It stays behind a release, and is the next one's then.
	goes(t, s, 0, word.Finish)
	s.Drop()
	if s.Period(0) != 5 {
		t.Error(s.Period(0))
	}
	held(t, s, 0, 0)
	if s.Period(0) != 0 || s.Period(2) != math.MaxUint64 {
		t.Error(s.Period(0), s.Period(2))
	}
}

func TestWords(t *testing.T) {
	s := made(t, 2)
	for slot := range 2 {
		if w, e := s.Word(slot); w != 0 || e != api.OK {
			t.Error(slot, w, e)
		}
	}
	held(t, s, 0, 0)
	held(t, s, 0, 1)
	goes(t, s, 1, word.Submit)
	if w, e := s.Word(0); w != packed(t, api.Pending, 1, false) || e != api.OK {
		t.Error(w, e)
	}
	if w, e := s.Word(1); w != packed(t, api.Queued, 1, false) || e != api.OK {
		t.Error(w, e)
	}
	for _, slot := range []int{-1, -2, 2, 3, 63, 64, 128, math.MinInt, math.MaxInt} {
		if w, e := s.Word(slot); w != 0 || e != api.ErrRange {
			t.Errorf("Word(%d): %d, %d", slot, w, e)
		}
	}
}

// P9.3

// put is a slab of one record, of this period, whose word is the one that comes of these events.
func put(t *testing.T, period uint64, events []int) *slab.Slab {
	t.Helper()
	s := made(t, 1)
	held(t, s, period, 0)
	goes(t, s, 0, events...)
	return s
}

// ways lead to a word of each state, and to those that are the last.
func ways(periodic bool) [][]int {
	all := [][]int{
		{},
		{word.Submit},
		{word.Submit, word.Enter},
		{word.Submit, word.Enter, word.Claim},
		{word.Submit, word.Cancel},
		{word.Submit, word.Enter, word.Claim, word.Finish},
		{word.Finish},
		{word.Submit, word.Reset, word.Reset},
		{word.Submit, word.Cancel, word.Release},
	}
	if periodic {
		all = append(all, [][]int{
			{word.Submit, word.Enter, word.Claim, word.Rearm},
			{word.Submit, word.Enter, word.Claim, word.Cancel},
			{word.Submit, word.Stop},
			{word.Submit, word.Enter, word.Stop},
			{word.Submit, word.Enter, word.Claim, word.Stop},
			{word.Submit, word.Stop, word.Cancel},
			{word.Submit, word.Enter, word.Claim, word.Stop, word.Finish},
		}...)
	}
	return all
}

func TestTryEachEvent(t *testing.T) {
	for _, period := range []uint64{0, 1, math.MaxUint64} {
		for _, way := range ways(period != 0) {
			for event := word.Alloc; event <= word.Release; event++ {
				s := put(t, period, way)
				old, _ := s.Word(0)
				want, wantE := word.Next(old, event, period != 0)
				if got, e := s.Try(0, old, event); got != want || e != wantE {
					t.Errorf("%d: Try(%#x, %d): %#x, %d, want %#x, %d", period, old, event, got, e, want, wantE)
				}
				if got, e := s.Word(0); got != want || e != api.OK {
					t.Errorf("%d: word behind Try(%#x, %d): %#x, want %#x", period, old, event, got, want)
				}
				// Neither the number nor the count has a part in it.
				counts(t, s, 1)
				if !s.Mine(64) || s.Mine(128) || s.Period(0) != period {
					t.Errorf("Try of %d", event)
				}
			}
		}
	}
}

func TestPeriodicIsTheSlotsOwn(t *testing.T) {
	s := made(t, 2)
	held(t, s, 0, 0)
	held(t, s, 3, 1)
	w := goes(t, s, 0, word.Submit, word.Enter, word.Claim)
	if x := goes(t, s, 1, word.Submit, word.Enter, word.Claim); x != w {
		t.Fatal(x, w)
	}
	if x, e := s.Try(0, w, word.Rearm); x != w || e != api.ErrState {
		t.Error(x, e)
	}
	if x, e := s.Try(1, w, word.Rearm); x != packed(t, api.InWheel, 2, false) || e != api.OK {
		t.Error(x, e)
	}
}

func TestTryOfAnOldWord(t *testing.T) {
	s := made(t, 1)
	held(t, s, 0, 0)
	old, _ := s.Word(0)
	now := goes(t, s, 0, word.Submit)
	if w, e := s.Try(0, old, word.Submit); w != now || e != api.ErrBusy {
		t.Error(w, e)
	}
	// It may happen to the word that the slot has; but that isn't the one that was asked of.
	if w, e := s.Try(0, packed(t, api.Queued, 2, false), word.Cancel); w != now || e != api.ErrBusy {
		t.Error(w, e)
	}
	if w, e := s.Try(0, packed(t, api.Queued, 1, true), word.Cancel); w != now || e != api.ErrBusy {
		t.Error(w, e)
	}
	if w, _ := s.Word(0); w != now {
		t.Error(w)
	}
	if w, e := s.Try(0, now, word.Cancel); w != packed(t, api.Cancelled, 1, false) || e != api.OK {
		t.Error(w, e)
	}
}

func TestTryErrorsInOrder(t *testing.T) {
	const bad = word.Word(7)
	s := made(t, 2)
	held(t, s, 0, 0)
	now := goes(t, s, 0, word.Submit)
	rows := []struct {
		slot  int
		old   word.Word
		event int
		want  word.Word
		e     api.Errno
	}{
		{2, now, word.Cancel, 0, api.ErrRange},
		{-1, now, word.Cancel, 0, api.ErrRange},
		{2, bad, 99, 0, api.ErrRange},
		{64, bad, 0, 0, api.ErrRange},
		{math.MinInt, now, word.Cancel, 0, api.ErrRange},
		{math.MaxInt, bad, math.MinInt, 0, api.ErrRange},
		{0, bad, word.Cancel, now, api.ErrForm},
		{0, bad, 99, now, api.ErrForm},
		{0, now | 1<<40, word.Cancel, now, api.ErrForm},
		{0, math.MaxUint64, word.Alloc, now, api.ErrForm},
		{0, now, 0, now, api.ErrInvalid},
		{0, now, 11, now, api.ErrInvalid},
		{0, now, -1, now, api.ErrInvalid},
		{0, now, math.MinInt, now, api.ErrInvalid},
		{0, now, math.MaxInt, now, api.ErrInvalid},
		{0, packed(t, api.Done, 5, false), 11, now, api.ErrInvalid}, // another word, too
		{0, now, word.Submit, now, api.ErrState},
		{0, now, word.Stop, now, api.ErrState},
		{0, packed(t, api.Done, 5, false), word.Cancel, now, api.ErrState}, // another word, too
		{0, packed(t, api.Free, api.MaxGen, false), word.Alloc, now, api.ErrOver},
		{0, packed(t, api.Queued, api.MaxGen, false), word.Reset, now, api.ErrOver},
		{0, packed(t, api.Queued, api.MaxGen, false), word.Cancel, now, api.ErrBusy},
		{0, 0, word.Alloc, now, api.ErrBusy},
		{1, now, word.Cancel, 0, api.ErrBusy},
		{1, now, word.Claim, 0, api.ErrState},
	}
	for _, q := range rows {
		if w, e := s.Try(q.slot, q.old, q.event); w != q.want || e != q.e {
			t.Errorf("Try(%d, %#x, %d): %#x, %d, want %#x, %d", q.slot, q.old, q.event, w, e, q.want, q.e)
		}
		if w, _ := s.Word(0); w != now {
			t.Fatalf("Try(%d, %#x, %d) changed the word", q.slot, q.old, q.event)
		}
		if w, _ := s.Word(1); w != 0 {
			t.Fatalf("Try(%d, %#x, %d) changed another word", q.slot, q.old, q.event)
		}
	}
	counts(t, s, 1)
}

func TestTryOfAlloc(t *testing.T) {
	s := made(t, 2)
	// The event alone: nothing is given by it, and nothing is counted.
	if w, e := s.Try(0, 0, word.Alloc); w != packed(t, api.Pending, 1, false) || e != api.OK {
		t.Error(w, e)
	}
	counts(t, s, 0)
	if k, e := s.Slot(64); k != 0 || e != api.ErrInvalid || s.Mine(64) {
		t.Error(k, e)
	}
	r := s.Begin(0)
	steps(t, r, slab.Working, slab.Working, slab.Working, slab.Held)
	is(t, r, 65)
}

func TestTryOfOneOldWord(t *testing.T) {
	s := made(t, 1)
	held(t, s, 2, 0)
	old := goes(t, s, 0, word.Submit, word.Enter)
	// Whoever comes first turns it; all others learn what it is by now.
	now, e := s.Try(0, old, word.Reset)
	if now != packed(t, api.Queued, 2, false) || e != api.OK {
		t.Fatal(now, e)
	}
	for _, event := range []int{word.Claim, word.Cancel, word.Stop, word.Reset} {
		if w, e := s.Try(0, old, event); w != now || e != api.ErrBusy {
			t.Error(event, w, e)
		}
	}
}

func TestDrop(t *testing.T) {
	s := made(t, 3)
	if e := s.Drop(); e != api.ErrNone {
		t.Error(e)
	}
	counts(t, s, 0)
	for slot := range 3 {
		held(t, s, 0, slot)
	}
	for n := 3; n > 0; n-- {
		counts(t, s, n)
		if e := s.Drop(); e != api.OK {
			t.Error(n, e)
		}
	}
	for range 3 {
		counts(t, s, 0)
		if e := s.Drop(); e != api.ErrNone {
			t.Error(e)
		}
	}
	// Just the count went: the records are what they were.
	for slot := range 3 {
		if w, _ := s.Word(slot); w != packed(t, api.Pending, 1, false) || !s.Mine(uint64(64+slot)) {
			t.Error(slot, w)
		}
	}
}

func TestNil(t *testing.T) {
	var s *slab.Slab
	if s.Begin(0) != nil || s.Begin(3) != nil {
		t.Error("Begin")
	}
	for _, id := range []uint64{0, 64, math.MaxUint64} {
		if k, e := s.Slot(id); k != 0 || e != api.ErrNone || s.Mine(id) {
			t.Error("Slot, Mine", id, k, e)
		}
	}
	for _, slot := range []int{math.MinInt, -1, 0, 1, 64, math.MaxInt} {
		if w, e := s.Word(slot); w != 0 || e != api.ErrNone || s.Period(slot) != 0 {
			t.Error("Word, Period", slot, w, e)
		}
		for event := -1; event <= 11; event++ {
			for _, old := range []word.Word{0, 7, math.MaxUint64} {
				if w, e := s.Try(slot, old, event); w != 0 || e != api.ErrNone {
					t.Error("Try", slot, old, event, w, e)
				}
			}
		}
	}
	if e := s.Drop(); e != api.ErrNone || s.Count() != 0 {
		t.Error("Drop, Count", e)
	}
	for _, r := range []*slab.Request{nil, s.Begin(1)} {
		steps(t, r, slab.Full, slab.Full)
		isNone(t, r)
	}
}

func TestZeroAnswersAsNil(t *testing.T) {
	var s slab.Slab
	if s.Begin(1) != nil || s.Mine(64) || s.Period(0) != 0 || s.Drop() != api.ErrNone || s.Count() != 0 {
		t.Error("zero slab")
	}
	if k, e := s.Slot(64); k != 0 || e != api.ErrNone {
		t.Error(k, e)
	}
	if w, e := s.Try(0, 0, word.Alloc); w != 0 || e != api.ErrNone {
		t.Error(w, e)
	}
	var r slab.Request
	steps(t, &r, slab.Full)
	isNone(t, &r)
}

// P9.4

func TestAloneBehindNPlusTwoSteps(t *testing.T) {
	for n := 1; n <= 64; n++ {
		b := newBench(t, n)
		for slot := range n {
			b.step(b.begin(0))
			a := b.begin(0)
			for b.step(a) == slab.Working {
			}
			if a.id != uint64(64+slot) {
				t.Fatal(n, slot, a.id)
			}
		}
		// The worst one: just the last slot is free.
		b.free(n - 1)
		a := b.begin(0)
		for i := 1; b.step(a) == slab.Working; i++ {
			if i >= n+2 {
				t.Fatal("too many steps", n)
			}
		}
		is(t, a.r, uint64(128+n-1))
		b.check()
	}
}

// follows holds what follows against a slab, of which Drop came only behind what makes a record free.
func (b *bench) follows() {
	b.t.Helper()
	if n, c := b.busy(), b.s.Count(); n > c || c > b.n {
		b.t.Fatalf("%d records aren't free, the count is %d of %d", n, c, b.n)
	}
}

// TestEveryShortRow lets three requests, a drop, and what leads to a free record come in every order.
func TestEveryShortRow(t *testing.T) {
	const length = 7
	calls := []func(*bench){
		func(b *bench) { b.step(b.requests[0]) },
		func(b *bench) { b.step(b.requests[1]) },
		func(b *bench) { b.step(b.requests[2]) },
		func(b *bench) { b.try(0, b.words[0], word.Finish) },
		func(b *bench) { b.drop() },
	}
	rows := 1
	for range length {
		rows *= len(calls)
	}
	for n := 1; n <= 2; n++ {
		for row := range rows {
			b := newBench(t, n)
			for i := range 3 {
				b.begin(uint64(i))
			}
			for k, i := row, 0; i < length; i++ {
				calls[k%len(calls)](b)
				k /= len(calls)
			}
			b.check()
		}
	}
}

func TestLongRows(t *testing.T) {
	for seed := range 40 {
		d := dice(seed)
		n := 1 + d.below(5)
		if seed%10 == 9 {
			n = 64
		}
		b := newBench(t, n)
		for range 600 {
			b.anyCall(&d)
			b.check()
		}
	}
}

// anyCall makes some call, with arguments that fit and ones that don't.
func (b *bench) anyCall(d *dice) {
	b.t.Helper()
	switch d.below(8) {
	case 0:
		b.begin(uint64(d.below(2)) * uint64(d.below(9)))
	case 1, 2, 3:
		if len(b.requests) > 0 {
			// The younger ones mostly: else too many steps are of those that make none.
			k := len(b.requests) - 1 - d.below(min(4, len(b.requests)))
			b.step(b.requests[k])
		}
	case 4, 5, 6:
		slot := d.below(b.n+2) - 1
		old := word.Word(d.below(4096))
		if slot >= 0 && slot < b.n && d.below(8) > 0 {
			old = b.words[slot]
		}
		b.try(slot, old, d.below(12))
	case 7:
		if d.below(4) == 0 {
			b.drop()
		}
	}
}

func TestLongRowsThatKeepTheCount(t *testing.T) {
	for seed := range 40 {
		d := dice(1000 + seed)
		n := 1 + d.below(6)
		b := newBench(t, n)
		for range 600 {
			switch d.below(6) {
			case 0:
				b.begin(uint64(d.below(3)))
			case 1, 2, 3:
				if len(b.requests) > 0 {
					b.step(b.requests[d.below(len(b.requests))])
				}
			case 4:
				slot := d.below(n)
				// Alloc is the requests' own, and what makes a record free is dropped at once, below.
				event := []int{word.Submit, word.Enter, word.Claim, word.Rearm, word.Cancel, word.Stop, word.Reset}[d.below(7)]
				b.try(slot, b.words[slot], event)
			case 5:
				if slot := d.below(n); b.words[slot].State() != api.Free {
					b.free(slot)
				}
			}
			b.follows()
		}
		b.check()
		b.alone()
	}
}

// alone lets one request work alone, which must hold a record behind n + 2 steps at most, if the count is below n.
func (b *bench) alone() {
	b.t.Helper()
	if b.count == b.n {
		if b.step(b.begin(0)) != slab.Full {
			b.t.Error("not full")
		}
		return
	}
	a := b.begin(0)
	for range b.n + 2 {
		b.step(a)
	}
	if a.status != slab.Held {
		b.t.Errorf("alone: %d behind %d steps", a.status, b.n+2)
	}
}
