package firing_test

import (
	"math"
	"slices"
	"testing"

	"verge/api"
	"verge/firing"
)

const top = uint64(math.MaxUint64)

// shot is a firing, its parts in the order in which the document writes them.
func shot(id, gen, deadline, tick uint64) api.Firing {
	return api.Firing{Id: id, Gen: gen, Deadline: deadline, Tick: tick}
}

// made is a log that New must make, with firings that are put at once.
func made(t *testing.T, f ...api.Firing) *firing.Log {
	t.Helper()
	l := firing.New()
	if l == nil {
		t.Fatal("New: nil")
	}
	l.Put(f...)
	return l
}

// same holds firings that were answered against those that are wanted.
func same(t *testing.T, what string, got, want []api.Firing) {
	t.Helper()
	if !slices.Equal(got, want) {
		t.Errorf("%s: %v, want %v", what, got, want)
	}
}

// holds holds all that a log has, and how many these are, against what is wanted.
func holds(t *testing.T, l *firing.Log, want ...api.Firing) {
	t.Helper()
	same(t, "All", l.All(), want)
	if n := l.Len(); n != len(want) {
		t.Errorf("Len: %d, want %d", n, len(want))
	}
}

// timers holds a log's timers against what is wanted.
func timers(t *testing.T, l *firing.Log, want ...uint64) {
	t.Helper()
	if got := l.Ids(); !slices.Equal(got, want) {
		t.Errorf("Ids: %v, want %v", got, want)
	}
}

// faulty holds the faults of firings against what is wanted.
func faulty(t *testing.T, l []api.Firing, want ...int) {
	t.Helper()
	if got := firing.Faults(l); !slices.Equal(got, want) {
		t.Errorf("Faults(%v): %v, want %v", l, got, want)
	}
}

func TestExampleOfTheChapter(t *testing.T) {
	first, second := shot(64, 1, 5, 5), shot(65, 1, 7, 6)
	l := made(t, first, second)
	holds(t, l, first, second)
	same(t, "Of(64)", l.Of(64), []api.Firing{first})
	faulty(t, l.All(), 1)
}

// P12.1

func TestNewLogIsEmpty(t *testing.T) {
	l := made(t)
	for range 2 {
		holds(t, l)
		timers(t, l)
		for _, n := range []uint64{0, 1, 64, top} {
			same(t, "Of", l.Of(n), nil)
			same(t, "At", l.At(n), nil)
		}
	}
}

func TestLogsAreApart(t *testing.T) {
	l, other := made(t), made(t)
	if l == other {
		t.Fatal("New: the same log twice")
	}
	l.Put(shot(1, 1, 1, 1))
	holds(t, other)
	timers(t, other)
	other.Put(shot(2, 1, 2, 2))
	holds(t, l, shot(1, 1, 1, 1))
	holds(t, other, shot(2, 1, 2, 2))
}

func TestPutOfNone(t *testing.T) {
	l := made(t)
	l.Put()
	l.Put(nil...)
	l.Put([]api.Firing{}...)
	holds(t, l)
	l.Put(shot(1, 2, 3, 4))
	l.Put()
	l.Put(nil...)
	holds(t, l, shot(1, 2, 3, 4))
	timers(t, l, 1)
}

func TestPutOfOne(t *testing.T) {
	l := made(t)
	l.Put(shot(1, 2, 3, 4))
	holds(t, l, shot(1, 2, 3, 4))
	same(t, "Of(1)", l.Of(1), []api.Firing{shot(1, 2, 3, 4)})
	same(t, "At(4)", l.At(4), []api.Firing{shot(1, 2, 3, 4)})
	timers(t, l, 1)
}

func TestPutOfSeveralAtOnce(t *testing.T) {
	want := []api.Firing{shot(9, 1, 5, 5), shot(3, 1, 2, 5), shot(9, 2, 7, 7), shot(4, 8, 1, 7)}
	l := made(t)
	l.Put(want...)
	holds(t, l, want...)
}

func TestPutsOneBehindTheOther(t *testing.T) {
	var want []api.Firing
	l := made(t)
	for size := range 7 {
		var row []api.Firing
		for i := range size {
			// The later ones have the lesser numbers: order is that of puts alone.
			row = append(row, shot(uint64(90-10*size-i), uint64(i), uint64(50-size), uint64(70-size)))
		}
		l.Put(row...)
		want = append(want, row...)
		holds(t, l, want...)
	}
}

// TestAnyFiringIsTaken: a log judges nothing; the same one may stand in it again and again, a zero one, an early one.
func TestAnyFiringIsTaken(t *testing.T) {
	want := []api.Firing{{}, {}, shot(0, 0, 9, 0), shot(top, top, top, top), shot(top, top, top, top), shot(0, top, 0, top)}
	l := made(t, want...)
	holds(t, l, want...)
	timers(t, l, 0, top)
	same(t, "Of(0)", l.Of(0), []api.Firing{{}, {}, want[2], want[5]})
	same(t, "Of(2^64 - 1)", l.Of(top), []api.Firing{want[3], want[4]})
	same(t, "At(0)", l.At(0), []api.Firing{{}, {}, want[2]})
	same(t, "At(2^64 - 1)", l.At(top), []api.Firing{want[3], want[4], want[5]})
}

func TestAnswersAreNewMemory(t *testing.T) {
	want := []api.Firing{shot(1, 1, 5, 5), shot(1, 2, 5, 5), shot(2, 1, 5, 5)}
	l := made(t, want...)
	for _, answer := range []func() []api.Firing{
		l.All,
		func() []api.Firing { return l.Of(1) },
		func() []api.Firing { return l.At(5) },
	} {
		got, other := answer(), answer()
		before := slices.Clone(other)
		clear(got[:cap(got)])
		same(t, "an answer behind a change of another one", other, before)
		same(t, "the same answer anew", answer(), before)
		holds(t, l, want...)
		timers(t, l, 1, 2)
	}
	ids := l.Ids()
	clear(ids[:cap(ids)])
	timers(t, l, 1, 2)
	holds(t, l, want...)
}

// TestAnswersStayAsTheyAre: what is put later comes into no answer that was given ahead of it, its spare room neither.
func TestAnswersStayAsTheyAre(t *testing.T) {
	l := made(t, shot(1, 1, 5, 5), shot(1, 2, 6, 5), shot(1, 3, 7, 5))
	all, of, at := l.All(), l.Of(1), l.At(5)
	whole := [][]api.Firing{all[:cap(all)], of[:cap(of)], at[:cap(at)]}
	var before [][]api.Firing
	for _, w := range whole {
		before = append(before, slices.Clone(w))
	}
	for i := range 20 {
		l.Put(shot(1, uint64(i), 9, 5))
	}
	for i, w := range whole {
		same(t, "an answer behind a Put", w, before[i])
	}
}

func TestWhatIsPutIsNotKept(t *testing.T) {
	first, second := shot(1, 1, 5, 5), shot(2, 1, 6, 6)
	given := make([]api.Firing, 2, 8)
	given[0], given[1] = first, second
	l := made(t)
	l.Put(given...)
	clear(given)
	holds(t, l, first, second)
	same(t, "Of(2)", l.Of(2), []api.Firing{second})
	timers(t, l, 1, 2)
	// What is put next must not land in the spare room of what was given.
	l.Put(first, second)
	same(t, "what was given, with its spare room", given[:cap(given)], make([]api.Firing, 8))
	holds(t, l, first, second, first, second)
}

func TestWhatIsPutIsNotChanged(t *testing.T) {
	given := []api.Firing{shot(9, 1, 5, 5), shot(3, 1, 6, 6), shot(9, 1, 4, 1)}
	before := slices.Clone(given)
	l := made(t)
	l.Put(given...)
	l.All()
	l.Ids()
	l.Of(9)
	l.At(5)
	same(t, "what was given", given, before)
}

func TestPutOfWhatTheLogAnswered(t *testing.T) {
	a, b := shot(2, 1, 5, 5), shot(1, 1, 6, 6)
	l := made(t, a, b)
	l.Put(l.All()...)
	holds(t, l, a, b, a, b)
	l.Put(l.Of(1)...)
	holds(t, l, a, b, a, b, b, b)
	timers(t, l, 1, 2)
}

func TestOf(t *testing.T) {
	l := made(t, shot(70, 1, 5, 5), shot(64, 2, 6, 6))
	l.Put(shot(70, 3, 8, 9), shot(65, 70, 70, 70), shot(70, 1, 9, 9))
	l.Put(shot(64, 3, 10, 9), shot(70, 2, 1, 1))
	same(t, "Of(70)", l.Of(70), []api.Firing{shot(70, 1, 5, 5), shot(70, 3, 8, 9), shot(70, 1, 9, 9), shot(70, 2, 1, 1)})
	same(t, "Of(64)", l.Of(64), []api.Firing{shot(64, 2, 6, 6), shot(64, 3, 10, 9)})
	same(t, "Of(65)", l.Of(65), []api.Firing{shot(65, 70, 70, 70)})
	// A generation, a deadline or a tick is no timer.
	for _, id := range []uint64{0, 1, 3, 5, 9, 63, 66, 134, 70 + 1<<32, top} {
		same(t, "Of another timer", l.Of(id), nil)
	}
}

func TestAt(t *testing.T) {
	l := made(t, shot(70, 1, 5, 9), shot(64, 2, 6, 6))
	l.Put(shot(70, 2, 8, 9), shot(9, 9, 9, 4), shot(1, 1, 2, 9))
	l.Put(shot(64, 3, 10, 9), shot(65, 1, 4, 6))
	same(t, "At(9)", l.At(9), []api.Firing{shot(70, 1, 5, 9), shot(70, 2, 8, 9), shot(1, 1, 2, 9), shot(64, 3, 10, 9)})
	same(t, "At(6)", l.At(6), []api.Firing{shot(64, 2, 6, 6), shot(65, 1, 4, 6)})
	same(t, "At(4)", l.At(4), []api.Firing{shot(9, 9, 9, 4)})
	// A number, a generation or a deadline is no tick.
	for _, tick := range []uint64{0, 1, 2, 3, 5, 8, 10, 64, 70, 9 + 1<<32, top} {
		same(t, "At another tick", l.At(tick), nil)
	}
}

func TestIds(t *testing.T) {
	l := made(t)
	for _, q := range []struct {
		put  []uint64
		want []uint64
	}{
		{nil, nil},
		{[]uint64{70}, []uint64{70}},
		{[]uint64{70, 70}, []uint64{70}},
		{[]uint64{64, 70}, []uint64{64, 70}},
		{[]uint64{100, 9, 66}, []uint64{9, 64, 66, 70, 100}},
		// Above 2^63 - 1 they are still the greatest, and 0 is a timer, too.
		{[]uint64{top, 0, 1 << 63, 70}, []uint64{0, 9, 64, 66, 70, 100, 1 << 63, top}},
		{[]uint64{9, 0, top}, []uint64{0, 9, 64, 66, 70, 100, 1 << 63, top}},
	} {
		for _, id := range q.put {
			l.Put(shot(id, 3, 5, 2))
		}
		timers(t, l, q.want...)
	}
}

func TestLen(t *testing.T) {
	l := made(t)
	sum := 0
	for _, n := range []int{0, 1, 0, 3, 2, 0, 100, 1} {
		// Alike, all of them: none is left out since it stands there already.
		l.Put(make([]api.Firing, n)...)
		sum += n
		if got := l.Len(); got != sum {
			t.Errorf("Len behind a Put of %d: %d, want %d", n, got, sum)
		}
	}
}

func TestNilLog(t *testing.T) {
	var l *firing.Log
	for range 2 {
		l.Put()
		l.Put(shot(1, 1, 1, 1))
		l.Put(shot(0, 0, 0, 0), shot(2, 1, 2, 2))
		holds(t, l)
		timers(t, l)
		for _, n := range []uint64{0, 1, 2, top} {
			same(t, "Of", l.Of(n), nil)
			same(t, "At", l.At(n), nil)
		}
		faulty(t, l.All())
	}
}

// Of a zero log nothing is said; it is an empty one.
func TestZeroLog(t *testing.T) {
	var l firing.Log
	holds(t, &l)
	timers(t, &l)
	l.Put(shot(1, 1, 1, 1))
	holds(t, &l, shot(1, 1, 1, 1))
}

// P12.2

func TestFaults(t *testing.T) {
	for _, q := range []struct {
		name string
		l    []api.Firing
		want []int
	}{
		{"none", nil, nil},
		{"none, but a list", []api.Firing{}, nil},
		{"a zero one", []api.Firing{{}}, nil},
		{"early by one", []api.Firing{shot(1, 1, 5, 4)}, []int{0}},
		{"at its deadline", []api.Firing{shot(1, 1, 5, 5)}, nil},
		{"late by one", []api.Firing{shot(1, 1, 5, 6)}, nil},
		{"early at the ends", []api.Firing{shot(1, 1, top, 0), shot(2, 1, top, top-1), shot(3, 1, 1<<63, 1<<63-1), shot(4, 1, 1, 0)}, []int{0, 1, 2, 3}},
		{"not early at the ends", []api.Firing{shot(1, 1, top, top), shot(2, 1, 0, top), shot(3, 1, 1<<63-1, 1<<63), shot(4, 1, 0, 0)}, nil},
		{"twice", []api.Firing{shot(1, 1, 5, 5), shot(1, 1, 5, 5)}, []int{1}},
		{"twice, with another deadline and tick", []api.Firing{shot(1, 1, 5, 5), shot(1, 1, 7, 9)}, []int{1}},
		{"twice, far apart", []api.Firing{shot(1, 1, 5, 5), shot(2, 1, 5, 5), shot(1, 2, 6, 6), shot(3, 1, 6, 6), shot(1, 1, 8, 8)}, []int{4}},
		{"thrice", []api.Firing{shot(1, 1, 5, 5), shot(1, 1, 6, 6), shot(1, 1, 7, 7)}, []int{1, 2}},
		{"another generation", []api.Firing{shot(1, 1, 5, 5), shot(1, 2, 5, 5), shot(1, 0, 5, 5)}, nil},
		{"another timer", []api.Firing{shot(1, 1, 5, 5), shot(2, 1, 5, 5), shot(0, 1, 5, 5)}, nil},
		{"number and generation in turn", []api.Firing{shot(1, 2, 5, 5), shot(2, 1, 5, 5)}, nil},
		{"the same sum, the same low halves", []api.Firing{shot(1, 4, 5, 5), shot(2, 3, 5, 5), shot(1+1<<32, 4, 5, 5), shot(1, 4+1<<32, 5, 5)}, nil},
		{"early and twice: one place", []api.Firing{shot(1, 1, 5, 5), shot(1, 1, 9, 8)}, []int{1}},
		{"behind an early one it is twice, too", []api.Firing{shot(1, 1, 5, 4), shot(1, 1, 5, 5)}, []int{0, 1}},
		{"several", []api.Firing{shot(3, 1, 4, 3), shot(1, 1, 5, 5), shot(2, 1, 6, 6), shot(1, 1, 5, 5), shot(2, 2, 9, 8), shot(4, 1, 9, 9), shot(2, 2, 9, 9)}, []int{0, 3, 4, 6}},
	} {
		t.Run(q.name, func(t *testing.T) {
			before := slices.Clone(q.l)
			for range 2 {
				faulty(t, q.l, q.want...)
			}
			same(t, "what was given", q.l, before)
		})
	}
}

func TestFaultsLeavesSpareRoom(t *testing.T) {
	given := make([]api.Firing, 2, 6)
	spare := shot(7, 7, 7, 7)
	for i := range given[:6] {
		given[:6][i] = spare
	}
	faulty(t, given, 1)
	firing.Rhythm(given, 7, 0)
	same(t, "what was given, with its spare room", given[:6], slices.Repeat([]api.Firing{spare}, 6))
}

func TestFaultsAreNewMemory(t *testing.T) {
	l := []api.Firing{shot(1, 1, 5, 4), shot(1, 1, 5, 4)}
	got := firing.Faults(l)
	clear(got[:cap(got)])
	faulty(t, l, 0, 1)
}

// P12.3

// row is so many firings in the rhythm of a start and a period, of generations from first on.
func row(n int, first, start, period uint64) []api.Firing {
	var l []api.Firing
	for i := range uint64(n) {
		l = append(l, shot(64, first+i, start+i*period, start+i*period))
	}
	return l
}

func TestRhythm(t *testing.T) {
	for _, q := range []struct {
		name          string
		l             []api.Firing
		start, period uint64
		want          bool
	}{
		{"none", nil, 5, 3, true},
		{"none, but a list", []api.Firing{}, 0, 0, true},
		{"none, at the ends", nil, top, top, true},
		{"one", []api.Firing{shot(1, 7, 5, 9)}, 5, 3, true},
		{"one, of any generation", []api.Firing{shot(1, 0, 5, 9)}, 5, 3, true},
		{"one, of the greatest generation", []api.Firing{shot(1, top, 5, 9)}, 5, 3, true},
		{"one, at 0", []api.Firing{shot(1, 1, 0, 0)}, 0, 3, true},
		{"one, a period off", []api.Firing{shot(1, 7, 8, 9)}, 5, 3, false},
		{"one, below start", []api.Firing{shot(1, 7, 4, 9)}, 5, 3, false},
		{"one, above start", []api.Firing{shot(1, 7, 6, 9)}, 5, 3, false},
		{"several", row(9, 1, 5, 3), 5, 3, true},
		{"several, from a later generation on", row(9, 1<<40, 5, 3), 5, 3, true},
		{"several, from the generation 0 on", row(9, 0, 0, 1), 0, 1, true},
		{"several, first deadline below start", row(9, 1, 5, 3), 6, 3, false},
		{"several, first deadline a period above start", row(9, 1, 5, 3), 2, 3, false},
		{"several, of a greater period", row(9, 1, 5, 3), 5, 4, false},
		{"several, of a lesser period", row(9, 1, 5, 3), 5, 2, false},
		{"several, ticks play no part", []api.Firing{shot(1, 7, 5, 0), shot(1, 8, 8, 100), shot(1, 9, 11, 3)}, 5, 3, true},
		{"several, numbers play no part", []api.Firing{shot(1, 7, 5, 5), shot(2, 8, 8, 8), shot(1, 9, 11, 11)}, 5, 3, true},
		{"the first two in turn", []api.Firing{shot(1, 8, 8, 8), shot(1, 7, 5, 5)}, 5, 3, false},
		{"a generation twice", []api.Firing{shot(1, 7, 5, 5), shot(1, 7, 8, 8)}, 5, 3, false},
		{"a generation left out", []api.Firing{shot(1, 7, 5, 5), shot(1, 9, 8, 8)}, 5, 3, false},
		{"a generation one less", []api.Firing{shot(1, 7, 5, 5), shot(1, 6, 8, 8)}, 5, 3, false},
		{"generations two apart in all", []api.Firing{shot(1, 7, 5, 5), shot(1, 7, 8, 8), shot(1, 9, 11, 11)}, 5, 3, false},
		{"a deadline twice", []api.Firing{shot(1, 7, 5, 5), shot(1, 8, 5, 5)}, 5, 3, false},
		{"a deadline left out", []api.Firing{shot(1, 7, 5, 5), shot(1, 8, 11, 11)}, 5, 3, false},
		{"a period of 0", row(5, 3, 5, 0), 5, 0, true},
		{"a period of 0, at the end", row(5, 3, top, 0), top, 0, true},
		{"a period of 0, another deadline", []api.Firing{shot(1, 7, 5, 5), shot(1, 8, 6, 6)}, 5, 0, false},
		{"a period of 0, the same generation", []api.Firing{shot(1, 7, 5, 5), shot(1, 7, 5, 5)}, 5, 0, false},
	} {
		t.Run(q.name, func(t *testing.T) {
			before := slices.Clone(q.l)
			for range 2 {
				if got := firing.Rhythm(q.l, q.start, q.period); got != q.want {
					t.Errorf("Rhythm(%v, %d, %d): %t, want %t", q.l, q.start, q.period, got, q.want)
				}
			}
			same(t, "what was given", q.l, before)
		})
	}
}

// TestRhythmThatDoesNotFit: what wraps round is no deadline, and no generation.
func TestRhythmThatDoesNotFit(t *testing.T) {
	for _, q := range []struct {
		name          string
		l             []api.Firing
		start, period uint64
		want          bool
	}{
		{"the sum is 2^64 - 1", row(2, 1, top-3, 3), top - 3, 3, true},
		{"the sum is 2^64 - 1, of many", row(6, 1, 0, top/5), 0, top / 5, true},
		{"a period of 2^64 - 1, from 0 on", row(2, 1, 0, top), 0, top, true},
		{"the sum is 2^64", row(2, 1, top-2, 3), top - 2, 3, false},
		{"the sum is 2^64, and the one behind fits again", row(3, 1, top-2, 3), top - 2, 3, false},
		{"the sum is above 2^64", row(2, 1, top, top), top, top, false},
		{"the sum doesn't fit at the last of many", row(7, 1, 0, top/5), 0, top / 5, false},
		{"i times period is 2^64", row(3, 1, 0, 1<<63), 0, 1 << 63, false},
		{"i times period is 2^64, with a start", row(3, 1, 7, 1<<63), 7, 1 << 63, false},
		{"i times period is above 2^64", row(4, 1, 0, 1<<63), 0, 1 << 63, false},
		{"i times period fits, the sum doesn't", row(2, 1, 1, top), 1, top, false},
		{"the deadline stays at the end", []api.Firing{shot(1, 7, top, top), shot(1, 8, top, top)}, top, 1, false},
		{"nothing behind the end has to fit", row(1, 1, top, top), top, top, true},
		{"the generation stays at the end", []api.Firing{shot(1, top, 5, 5), shot(1, top, 8, 8)}, 5, 3, false},
		{"the generation wraps round", []api.Firing{shot(1, top, 5, 5), shot(1, 0, 8, 8)}, 5, 3, false},
		{"the generation up to the end", row(3, top-2, 5, 3), 5, 3, true},
		{"the generation above 2^32 - 1", row(3, api.MaxGen-1, 5, 3), 5, 3, true},
	} {
		t.Run(q.name, func(t *testing.T) {
			if got := firing.Rhythm(q.l, q.start, q.period); got != q.want {
				t.Errorf("Rhythm(%v, %d, %d): %t, want %t", q.l, q.start, q.period, got, q.want)
			}
		})
	}
}

// TestRhythmIsLookedThroughToTheEnd: one deadline or generation that is off, at any place, is told.
func TestRhythmIsLookedThroughToTheEnd(t *testing.T) {
	const many = 20
	for place := range many {
		for _, by := range []uint64{1, 4, 8, top, top - 3} {
			late, anew := row(many, 100, 50, 4), row(many, 100, 50, 4)
			late[place].Deadline += by
			if firing.Rhythm(late, 50, 4) {
				t.Errorf("Rhythm with a deadline that is off by %d at %d: true", by, place)
			}
			anew[place].Gen += by
			if firing.Rhythm(anew, 50, 4) {
				t.Errorf("Rhythm with a generation that is off by %d at %d: true", by, place)
			}
		}
	}
}
