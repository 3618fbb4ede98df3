package wheel_test

import (
	"math"
	"slices"
	"testing"

	"verge/api"
	"verge/wheel"
)

// noLevels and noSlots are numbers that are no levels, and no slots.
var (
	noLevels = []int{-1, -2, -4, -1 << 32, math.MinInt + 1, math.MinInt, 4, 5, 10, 11, 64, 1 << 32, math.MaxInt - 1, math.MaxInt}
	noSlots  = []int{-1, -2, -64, -1 << 32, math.MinInt + 1, math.MinInt, 64, 65, 128, 1 << 32, 1<<32 + 5, math.MaxInt - 1, math.MaxInt}
)

// stands holds what a slot tells against what must stand there.
func stands[T comparable](t *testing.T, w *wheel.Wheel[T], level, slot int, want ...T) {
	t.Helper()
	if got := w.At(level, slot); !slices.Equal(got, want) {
		t.Errorf("At(%d, %d) at %d: %v, want %v", level, slot, w.Now(), got, want)
	}
}

// beyond holds what lies beyond against what must lie there.
func beyond[T comparable](t *testing.T, w *wheel.Wheel[T], want ...T) {
	t.Helper()
	if got := w.Beyond(); !slices.Equal(got, want) {
		t.Errorf("Beyond at %d: %v, want %v", w.Now(), got, want)
	}
}

// answers holds an error against the one that is wanted.
func answers(t *testing.T, what string, err, want api.Errno) {
	t.Helper()
	if err != want {
		t.Errorf("%s: %d, want %d", what, err, want)
	}
}

// next holds Next against the least deadline that there must be.
func next[T any](t *testing.T, w *wheel.Wheel[T], want uint64, wantErr api.Errno) {
	t.Helper()
	if got, err := w.Next(); got != want || err != wantErr {
		t.Errorf("Next at %d: %d, %d, want %d, %d", w.Now(), got, err, want, wantErr)
	}
}

// due advances by one: entries with these values must be due.
func due[T comparable](t *testing.T, w *wheel.Wheel[T], want ...T) {
	t.Helper()
	l, err := w.Advance()
	if got := told(l); err != api.OK || !slices.Equal(got, want) {
		t.Errorf("Advance to %d: %v, %d, want %v", w.Now(), got, err, want)
	}
}

// told are the values of entries.
func told[T any](entries []*wheel.Entry[T]) []T {
	var l []T
	for _, e := range entries {
		l = append(l, e.Value)
	}
	return l
}

// The chapter's example.

func TestExample(t *testing.T) {
	b := newBench[string](t, 0)
	b.insert(5, "a")
	b.insert(70, "b")
	stands(t, b.w, 0, 5, "a")
	stands(t, b.w, 1, 1, "b")
	b.check()
	b.until(64)
	stands(t, b.w, 0, 6, "b")
	stands(t, b.w, 1, 1)
	b.check()
	b.until(69)
	due(t, b.w, "b")
}

// P8.1

func TestNewIsEmpty(t *testing.T) {
	for _, now := range starts() {
		newBench[int](t, now).check()
		b := newBench[string](t, now)
		b.check()
		for range 130 {
			b.advance()
			b.check()
		}
	}
}

func TestWheelsHaveTheirOwnEntries(t *testing.T) {
	b, o := newBench[int](t, 7), newBench[int](t, 7)
	for i, by := range ahead {
		b.insert(7+by, i)
	}
	o.check()
	o.insert(8, 1)
	o.advance()
	o.check()
	b.check()
}

func TestInsertRefusesWhatIsNotAhead(t *testing.T) {
	for _, now := range starts() {
		b := newBench[int](t, now)
		kept := b.insert(later(now, 1), 1)
		for _, by := range []uint64{0, 1, 63, 64, 4096, far, now} {
			if by <= now {
				b.insert(now-by, 2)
			}
		}
		b.insert(0, 3)
		b.check()
		b.advance()
		// One that was due at this time is no more ahead than any other.
		if kept != nil {
			b.insert(kept.Deadline, 4)
			b.insert(kept.Deadline-1, 5)
		}
		b.check()
	}
}

func TestNothingIsAheadOfTheEnd(t *testing.T) {
	w := wheel.New[int](top)
	for _, deadline := range []uint64{0, 1, top - 1, top} {
		if e, err := w.Insert(deadline, 1); e != nil || err != api.ErrInvalid {
			t.Errorf("Insert(%d): %v, %d", deadline, e, err)
		}
	}
}

func TestInsertAtEachLevelsEnds(t *testing.T) {
	// At 0 the hand of each level stands at 0: its slots from 1 on are ahead.
	b := newBench[uint64](t, 0)
	for level := range levels {
		for _, slot := range []uint64{1, 2, 31, 32, 62, 63} {
			least := slot * spans[level]
			greatest := least + spans[level] - 1
			b.insert(greatest, greatest)
			b.insert(least, least)
			stands(t, b.w, level, int(slot), greatest, least)
		}
		b.check()
	}
	beyond(t, b.w)
	for _, deadline := range []uint64{far, far + 1, 2*far - 1, 1 << 40, 1 << 63, top} {
		b.insert(deadline, deadline)
	}
	beyond(t, b.w, far, far+1, 2*far-1, 1<<40, 1<<63, top)
	b.check()
}

func TestInsertHangsOnNow(t *testing.T) {
	for _, q := range []struct {
		now, deadline uint64
		level, slot   int
	}{
		{60, 61, 0, 61}, {60, 63, 0, 63}, {60, 64, 1, 1}, {60, 127, 1, 1}, {60, 128, 1, 2},
		{63, 64, 1, 1}, {64, 65, 0, 1}, {64, 127, 0, 63}, {4000, 4095, 1, 63}, {4095, 4096, 2, 1},
		{64*64*64 - 1, 64 * 64 * 64, 3, 1}, {64 * 64 * 64, 64*64*64 + 1, 0, 1},
		{5*far + 64, 5*far + 127, 0, 63}, {5 * far, 6*far - 1, 3, 63},
		{top - 1, top, 0, 63}, {top - 64, top, 1, 63}, {top - 4096, top, 2, 63}, {top - 64*64*64, top, 3, 63},
	} {
		b := newBench[int](t, q.now)
		b.insert(q.deadline, 7)
		stands(t, b.w, q.level, q.slot, 7)
		b.check()
	}
	for _, q := range [][2]uint64{{far - 1, far}, {5*far - 1, 5 * far}, {0, top}, {top - far, top}, {1<<60 - 1, 1 << 60}} {
		b := newBench[int](t, q[0])
		b.insert(q[1], 7)
		beyond(t, b.w, 7)
		b.check()
	}
}

func TestInsertStandsBehind(t *testing.T) {
	for _, now := range starts() {
		for _, by := range ahead {
			if by == 0 || by > top-now {
				continue
			}
			b := newBench[string](t, now)
			for _, v := range []string{"c", "a", "b", "a", ""} {
				b.insert(now+by, v)
				b.check()
			}
			if got := b.w.Len(); got != 5 {
				t.Errorf("Len: %d", got)
			}
		}
	}
}

func TestInsertTellsAnotherEntryEachTime(t *testing.T) {
	b := newBench[int](t, 0)
	one, two := b.insert(9, 1), b.insert(9, 1)
	if one == two {
		t.Error("one entry for two inserts")
	}
	b.remove(one)
	b.check()
	b.until(8)
	if got := b.advance(); len(got) != 1 || got[0] != two {
		t.Errorf("due: %v", got)
	}
}

func TestRemoveAnywhere(t *testing.T) {
	for _, now := range starts() {
		for _, by := range ahead {
			if by == 0 || by > top-now {
				continue
			}
			for at := range 4 {
				b := newBench[string](t, now)
				var entries []*wheel.Entry[string]
				for _, v := range []string{"a", "b", "c", "d"} {
					entries = append(entries, b.insert(now+by, v))
				}
				b.remove(entries[at])
				b.check()
				if entries[at].Deadline != now+by || entries[at].Value != []string{"a", "b", "c", "d"}[at] {
					t.Errorf("what was removed has %d, %q", entries[at].Deadline, entries[at].Value)
				}
				b.remove(entries[at])
				b.check()
				for _, e := range entries {
					b.remove(e)
				}
				b.check()
			}
		}
	}
}

func TestRemoveRefusesNil(t *testing.T) {
	b := newBench[int](t, 3)
	answers(t, "Remove(nil) of an empty wheel", b.w.Remove(nil), api.ErrInvalid)
	b.insert(4, 1)
	b.insert(far, 2)
	answers(t, "Remove(nil)", b.w.Remove(nil), api.ErrInvalid)
	b.check()
}

func TestRemoveRefusesAnotherWheels(t *testing.T) {
	for _, now := range []uint64{0, 60, far - 1, top - far - 5} {
		b, o, elder := newBench[int](t, now), newBench[int](t, now), newBench[int](t, now+1)
		for i, by := range ahead {
			mine, other := b.insert(later(now, by), i), o.insert(later(now, by), i)
			if mine == nil {
				continue
			}
			answers(t, "Remove of another wheel's", b.w.Remove(other), api.ErrNone)
			answers(t, "Remove by the other wheel", o.w.Remove(mine), api.ErrNone)
			answers(t, "Remove by one of another time", elder.w.Remove(mine), api.ErrNone)
		}
		b.check()
		o.check()
		elder.check()
	}
}

func TestRemoveOfWhatWasDue(t *testing.T) {
	b := newBench[int](t, 62)
	first, second := b.insert(64, 1), b.insert(64, 2)
	b.until(64)
	for _, e := range []*wheel.Entry[int]{first, second} {
		answers(t, "Remove of what was due", b.w.Remove(e), api.ErrNone)
	}
	b.check()
	b.insert(65, 3)
	b.insert(128, 4)
	b.until(300)
	answers(t, "Remove of what was due long ago", b.w.Remove(first), api.ErrNone)
	b.check()
}

func TestRemoveOfWhatCameDown(t *testing.T) {
	// From the level, or from beyond, that each begins at down to the level 0, a step at a time.
	for level := range levels + 1 {
		deadline := 3*spans[level] + 70*64 + 65
		if level < 3 {
			deadline = 3*spans[level] + 65
		}
		start := 3*spans[level] - 1
		for stop := start; stop < deadline; stop++ {
			if stop > start+3 && stop%64 != 0 && stop+3 < deadline {
				continue
			}
			b := newBench[int](t, start)
			a, m, c := b.insert(deadline, 1), b.insert(deadline, 2), b.insert(deadline, 3)
			b.until(stop)
			b.check()
			b.remove(m)
			b.check()
			b.remove(m)
			b.remove(a)
			b.check()
			b.until(deadline - 1)
			due(t, b.w, 3)
			answers(t, "Remove of what was due", b.w.Remove(c), api.ErrNone)
		}
	}
}

func TestRemoveOfWhatNoInsertAnswered(t *testing.T) {
	b := newBench[int](t, 0)
	e := b.insert(5, 1)
	copied := *e
	answers(t, "Remove of a copy", b.w.Remove(&copied), api.ErrNone)
	answers(t, "Remove of a zero entry", b.w.Remove(&wheel.Entry[int]{}), api.ErrNone)
	answers(t, "Remove of one made by hand", b.w.Remove(&wheel.Entry[int]{Deadline: 5, Value: 1}), api.ErrNone)
	b.check()
	b.remove(e)
	b.check()
}

// P8.2

func TestAdvanceOverTheTurnOfDigits(t *testing.T) {
	for level := 1; level <= levels; level++ {
		for _, times := range []uint64{1, 2, 63, 64, 65} {
			turn := times * spans[level]
			b := newBench[uint64](t, turn-2)
			for _, deadline := range []uint64{
				turn - 1, turn, turn + 1, turn + 63, turn + 64, turn + 4095, turn + 4096, turn + 64*64*64, turn + far, turn, turn + 1,
			} {
				b.insert(deadline, deadline)
			}
			for range 200 {
				b.check()
				b.advance()
			}
		}
	}
}

func TestComesDownLevelByLevel(t *testing.T) {
	b := newBench[string](t, far-1)
	b.insert(far+3*64*64*64+5*64*64+7*64+9, "x")
	beyond(t, b.w, "x")
	b.advance()
	beyond(t, b.w)
	stands(t, b.w, 3, 3, "x")
	b.until(far + 3*64*64*64)
	stands(t, b.w, 3, 3)
	stands(t, b.w, 2, 5, "x")
	b.until(far + 3*64*64*64 + 5*64*64)
	stands(t, b.w, 2, 5)
	stands(t, b.w, 1, 7, "x")
	b.until(far + 3*64*64*64 + 5*64*64 + 7*64)
	stands(t, b.w, 1, 7)
	stands(t, b.w, 0, 9, "x")
	b.check()
	b.until(far + 3*64*64*64 + 5*64*64 + 7*64 + 8)
	due(t, b.w, "x")
}

func TestComesDownSeveralLevelsAtOnce(t *testing.T) {
	for _, q := range []struct {
		from, by    uint64
		level, slot int
	}{
		{far - 1, 5, 0, 5}, {far - 1, 64 + 5, 1, 1}, {far - 1, 64 * 64, 2, 1}, {far - 1, 64 * 64 * 64, 3, 1},
		{64*64*64 - 1, 63, 0, 63}, {64*64*64 - 1, 4095, 1, 63}, {64*64*64 - 1, 4096, 2, 1},
		{4095, 1, 0, 1}, {4095, 64, 1, 1}, {63, 1, 0, 1},
	} {
		b := newBench[int](t, q.from)
		b.insert(q.from+1+q.by, 4)
		b.advance()
		stands(t, b.w, q.level, q.slot, 4)
		b.check()
	}
	// What is due at the turn itself comes down and is due in one advance.
	for level := 1; level <= levels; level++ {
		w := wheel.New[int](spans[level] - 1)
		w.Insert(spans[level], 1)
		w.Insert(spans[level], 2)
		due(t, w, 1, 2)
		if w.Len() != 0 {
			t.Errorf("Len: %d", w.Len())
		}
	}
}

func TestBeyondStaysUntilItsTurn(t *testing.T) {
	b := newBench[int](t, far-2)
	for i, deadline := range []uint64{3 * far, far, 2*far + 1, far + 5, 2 * far, top} {
		b.insert(deadline, i)
	}
	b.advance()
	beyond(t, b.w, 0, 1, 2, 3, 4, 5)
	due(t, b.w, 1)
	// What isn't due in this turn is placed anew beyond, in its order.
	beyond(t, b.w, 0, 2, 4, 5)
	stands(t, b.w, 0, 5, 3)
	if _, err := b.w.Insert(2*far+1, 6); err != api.OK {
		t.Error(err)
	}
	beyond(t, b.w, 0, 2, 4, 5, 6)
}

func TestOrderBehindWhatCameDown(t *testing.T) {
	for level := 1; level <= levels; level++ {
		turn := 2 * spans[level]
		b := newBench[string](t, turn-2)
		for _, v := range []string{"a", "b", "c"} {
			b.insert(turn+3, v)
			b.insert(turn+70, v)
			b.insert(turn+71, v)
		}
		b.until(turn)
		// These stand behind what came down, in the same slots.
		b.insert(turn+3, "d")
		b.insert(turn+71, "e")
		b.insert(turn+70, "f")
		b.insert(turn+3, "a")
		stands(t, b.w, 0, 3, "a", "b", "c", "d", "a")
		stands(t, b.w, 1, int(turn/64+1)%slots, "a", "a", "b", "b", "c", "c", "e", "f")
		b.check()
		b.until(turn + 64)
		stands(t, b.w, 0, 6, "a", "b", "c", "f")
		stands(t, b.w, 0, 7, "a", "b", "c", "e")
		b.until(turn + 69)
		due(t, b.w, "a", "b", "c", "f")
		due(t, b.w, "a", "b", "c", "e")
	}
}

func TestOrderOfBeyondBehindWhatStayed(t *testing.T) {
	b := newBench[int](t, far-1)
	b.insert(2*far+1, 1)
	b.insert(3*far, 2)
	b.insert(far+1, 3)
	b.advance()
	b.insert(2*far, 4)
	b.insert(3*far, 5)
	beyond(t, b.w, 1, 2, 4, 5)
	b.check()
}

func TestAdvanceAtTheEnd(t *testing.T) {
	b := newBench[int](t, top-65)
	for i, deadline := range []uint64{top, top - 1, top - 63, top - 64, top} {
		b.insert(deadline, i)
	}
	for range 70 {
		b.check()
		b.advance()
	}
	for range 3 {
		if l, err := b.w.Advance(); len(l) != 0 || err != api.ErrOver {
			t.Errorf("Advance at the end: %v, %d", l, err)
		}
		b.check()
	}
}

// P8.3

func TestAtOfNoLevelAndOfNoSlot(t *testing.T) {
	b := newBench[uint64](t, 0)
	for level := range levels {
		for slot := uint64(1); slot < slots; slot++ {
			b.insert(slot*spans[level], slot)
		}
	}
	b.insert(far, 1)
	b.insert(top, 2)
	for _, level := range slices.Concat(noLevels, []int{0, 1, 2, 3}) {
		for _, slot := range noSlots {
			stands(t, b.w, level, slot)
		}
	}
	for _, level := range noLevels {
		for slot := range slots {
			stands(t, b.w, level, slot)
		}
	}
	b.check()
}

func TestNextBehindInsert(t *testing.T) {
	w := wheel.New[int](60)
	next(t, w, 0, api.ErrNone)
	least := top
	for _, deadline := range []uint64{top, 5 * far, far, 3*64*64*64 + 9, 3*64*64*64 + 8, 70000, 64*64*7 + 5, 64*64*7 + 4, 64*64*7 + 6, 200, 193, 199, 128, 63, 61, 62, 61} {
		if _, err := w.Insert(deadline, 1); err != api.OK {
			t.Fatal(err)
		}
		least = min(least, deadline)
		next(t, w, least, api.OK)
	}
	w.Insert(60, 1)
	next(t, w, 61, api.OK)
}

func TestNextIsTheLeastOfASlot(t *testing.T) {
	// Of one slot's deadlines, and of what lies beyond, the least one stands anywhere.
	for _, first := range []uint64{64, 4096, 64 * 64 * 64, far} {
		for least := range 3 {
			w := wheel.New[int](0)
			for i := range 3 {
				w.Insert(first+2+uint64((i+3-least)%3), i)
			}
			next(t, w, first+2, api.OK)
		}
	}
}

func TestNextBehindRemove(t *testing.T) {
	b := newBench[int](t, 1)
	var entries []*wheel.Entry[int]
	for i, by := range ahead[1:] {
		entries = append(entries, b.insert(1+by, i), b.insert(1+by, -i))
	}
	for _, e := range entries {
		next(t, b.w, e.Deadline, api.OK)
		b.remove(e)
		b.brief()
	}
	next(t, b.w, 0, api.ErrNone)
}

func TestNextBehindAdvance(t *testing.T) {
	b := newBench[int](t, 4000)
	for i, by := range ahead {
		b.insert(4000+by, i)
	}
	for range 5000 {
		b.advance()
		b.brief()
	}
	b = newBench[int](t, 5)
	b.insert(6, 1)
	b.advance()
	next(t, b.w, 0, api.ErrNone)
}

func TestAskingChangesNothing(t *testing.T) {
	b := newBench[int](t, 62)
	for i, by := range ahead {
		b.insert(62+by, i)
	}
	for range 3 {
		b.check()
	}
	b.until(200)
	b.check()
}

func TestAtAndBeyondTellWhatEntriesHave(t *testing.T) {
	w := wheel.New[string](0)
	e, _ := w.Insert(70, "a")
	x, _ := w.Insert(far, "b")
	e.Value, x.Value = "A", "B"
	stands(t, w, 1, 1, "A")
	beyond(t, w, "B")
}

func TestAtAndBeyondAreOnesOwn(t *testing.T) {
	b := newBench[int](t, 0)
	for i := range 3 {
		b.insert(70, i)
		b.insert(far, i)
	}
	for _, ask := range []func() []int{func() []int { return b.w.At(1, 1) }, b.w.Beyond} {
		one, two := ask(), ask()
		spare := one[:cap(one)]
		for i := range spare {
			spare[i] = 9
		}
		if !slices.Equal(two, []int{0, 1, 2}) {
			t.Errorf("the other answer: %v", two)
		}
		b.check()
	}
	told := b.w.At(1, 1)
	b.insert(70, 3)
	b.until(70)
	if !slices.Equal(told, []int{0, 1, 2}) {
		t.Errorf("what was told ahead: %v", told)
	}
}

func TestDueIsOnesOwn(t *testing.T) {
	b := newBench[int](t, 62)
	for i := range 3 {
		for _, deadline := range []uint64{63, 64, 65, 129} {
			b.insert(deadline, i)
		}
	}
	var answered [][]*wheel.Entry[int]
	for b.now < 130 {
		l := b.advance()
		spare := l[:cap(l)]
		for i := range spare {
			spare[i] = nil
		}
		answered = append(answered, l)
		b.check()
	}
	for _, l := range answered {
		if slices.ContainsFunc(l, func(e *wheel.Entry[int]) bool { return e != nil }) {
			t.Errorf("an earlier answer behind later ones: %v", l)
		}
	}
}

func TestNilWheel(t *testing.T) {
	var none *wheel.Wheel[int]
	b := newBench[int](t, 0)
	e := b.insert(5, 1)
	for _, deadline := range []uint64{0, 1, far, top} {
		if got, err := none.Insert(deadline, 1); got != nil || err != api.ErrNone {
			t.Errorf("Insert: %v, %d", got, err)
		}
	}
	answers(t, "Remove", none.Remove(e), api.ErrNone)
	answers(t, "Remove(nil)", none.Remove(nil), api.ErrNone)
	if l, err := none.Advance(); len(l) != 0 || err != api.ErrNone {
		t.Errorf("Advance: %v, %d", l, err)
	}
	next(t, none, 0, api.ErrNone)
	for _, level := range slices.Concat(noLevels, []int{0, 1, 2, 3}) {
		for _, slot := range slices.Concat(noSlots, []int{0, 1, 5, 63}) {
			stands(t, none, level, slot)
		}
	}
	beyond(t, none)
	if none.Now() != 0 || none.Len() != 0 {
		t.Errorf("Now: %d, Len: %d", none.Now(), none.Len())
	}
	b.check()
}

// The deadline that Insert was given counts.

func TestWrittenDeadlineMovesNothing(t *testing.T) {
	for _, now := range []uint64{0, 62, 4094, far - 2, top - 4200} {
		for _, written := range []uint64{0, 1, now, now + 1, now + 3, now + 64, now + 4096, top} {
			b := newBench[int](t, now)
			for i, by := range ahead {
				if e := b.insert(later(now, by), i); e != nil {
					e.Deadline = written
				}
			}
			b.check()
			for range 70 {
				b.advance()
				b.check()
			}
			b.until(now + 4100)
			b.check()
		}
	}
}

func TestWrittenDeadlineHindersNoRemove(t *testing.T) {
	for _, written := range []uint64{0, 1, 62, 63, 65, 5000, far, top} {
		for _, ticks := range []uint64{0, 1, 2, 3, 66} {
			b := newBench[int](t, 62)
			var entries []*wheel.Entry[int]
			for i, by := range ahead[1:] {
				entries = append(entries, b.insert(62+by, i))
			}
			b.until(62 + ticks)
			for _, e := range entries {
				e.Deadline = written
				b.remove(e)
			}
			b.check()
			if b.w.Len() != 0 {
				t.Errorf("Len: %d", b.w.Len())
			}
			b.until(300)
		}
	}
}

func TestWrittenDeadlineIsNotNext(t *testing.T) {
	w := wheel.New[int](10)
	for _, deadline := range []uint64{far, 70000, 5000, 100, 20} {
		e, _ := w.Insert(deadline, 1)
		for _, written := range []uint64{0, 1, 10, 11, top} {
			e.Deadline = written
			next(t, w, deadline, api.OK)
		}
	}
}

// Of any type.

func TestOfTexts(t *testing.T) {
	for _, now := range starts() {
		b := newBench[string](t, now)
		for _, by := range ahead {
			b.insert(later(now, by), string(rune('a'+by%26)))
		}
		for range 140 {
			b.check()
			b.advance()
		}
	}
}

func TestOfWhatCannotBeCompared(t *testing.T) {
	type place struct{ at []int }
	w := wheel.New[place](0)
	w.Insert(1, place{[]int{1, 2}})
	e, _ := w.Insert(1, place{})
	w.Insert(far, place{[]int{3}})
	answers(t, "Remove", w.Remove(e), api.OK)
	if got := w.At(0, 1); len(got) != 1 || !slices.Equal(got[0].at, []int{1, 2}) {
		t.Errorf("At: %v", got)
	}
	if got := w.Beyond(); len(got) != 1 || !slices.Equal(got[0].at, []int{3}) {
		t.Errorf("Beyond: %v", got)
	}
	calls := 0
	f := wheel.New[func()](far - 1)
	f.Insert(far, func() { calls++ })
	f.Insert(far, func() { calls += 10 })
	l, err := f.Advance()
	for _, x := range l {
		x.Value()
	}
	if calls != 11 || err != api.OK {
		t.Errorf("calls: %d, %d", calls, err)
	}
}

// P8.4

func TestDueJustAtItsDeadline(t *testing.T) {
	for _, start := range []uint64{0, 60, 4000, 64*64*64 - 200, far - 200, 3*far - 1, top - 9000} {
		w := wheel.New[int](start)
		var entries []*wheel.Entry[int]
		for i := range 2000 {
			e, err := w.Insert(start+1+uint64(i)*37%8500, i)
			answers(t, "Insert", err, api.OK)
			entries = append(entries, e)
		}
		due, removed := map[*wheel.Entry[int]][]uint64{}, map[*wheel.Entry[int]]bool{}
		for tick := range 8600 {
			l, err := w.Advance()
			answers(t, "Advance", err, api.OK)
			for _, e := range l {
				due[e] = append(due[e], w.Now())
			}
			// Every third one is taken out on the way, some of them too late.
			if i := 3 * tick; i < len(entries) {
				removed[entries[i]] = w.Remove(entries[i]) == api.OK
			}
		}
		taken := 0
		for i, e := range entries {
			want := []uint64{e.Deadline}
			if removed[e] {
				want = nil
				taken++
			}
			if !slices.Equal(due[e], want) {
				t.Fatalf("from %d on: entry %d of %d, removed: %t, was due at %v", start, i, e.Deadline, removed[e], due[e])
			}
		}
		if taken == 0 || taken == 2000/3+1 || w.Len() != 0 {
			t.Errorf("from %d on: %d were removed, Len: %d", start, taken, w.Len())
		}
	}
}

// standsAhead asks of a wheel whose values are deadlines whether each entry of a level stands ahead of its hand.
func standsAhead(t *testing.T, w *wheel.Wheel[uint64]) {
	t.Helper()
	for level := range levels {
		hand := int(w.Now() / spans[level] % slots)
		for slot := range slots {
			for _, deadline := range w.At(level, slot) {
				if slot <= hand || deadline/spans[level+1] != w.Now()/spans[level+1] || int(deadline/spans[level]%slots) != slot {
					t.Errorf("%d stands at the level %d, slot %d, at %d", deadline, level, slot, w.Now())
				}
			}
		}
	}
}

func TestEachStandsAheadOfTheHand(t *testing.T) {
	for _, start := range starts() {
		w := wheel.New[uint64](start)
		for i := range uint64(100) {
			for _, by := range []uint64{1 + i*i*i%9000, 1 + i*i*i*i} {
				w.Insert(later(start, by), later(start, by))
			}
		}
		for range 4300 {
			standsAhead(t, w)
			if t.Failed() {
				t.Fatalf("from %d on", start)
			}
			if _, err := w.Advance(); err != api.OK {
				break
			}
		}
	}
}
