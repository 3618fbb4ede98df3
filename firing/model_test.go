package firing_test

import (
	"cmp"
	"math/big"
	"slices"
	"testing"

	"verge/api"
	"verge/firing"
)

// dice is a row of numbers that is the same one in every run.
type dice uint64

func (d *dice) below(n int) int {
	*d = *d*6364136223846793005 + 1442695040888963407
	return int(uint64(*d) >> 33 % uint64(n))
}

// some are so many firings of few timers, generations, deadlines and ticks, so that much comes twice.
func (d *dice) some(n int) []api.Firing {
	var l []api.Firing
	for range n {
		l = append(l, shot(uint64(d.below(5)), uint64(d.below(6)), uint64(d.below(4)), uint64(d.below(8))))
	}
	return l
}

// picked are those of a list that a function asks for.
func picked(l []api.Firing, asked func(api.Firing) bool) []api.Firing {
	return slices.DeleteFunc(slices.Clone(l), func(f api.Firing) bool { return !asked(f) })
}

// faultsBySearch are the faults in another way: each firing is held against each one ahead.
func faultsBySearch(l []api.Firing) []int {
	var places []int
	for i, f := range l {
		again := slices.ContainsFunc(l[:i], func(a api.Firing) bool { return a.Id == f.Id && a.Gen == f.Gen })
		if again || f.Deadline > f.Tick {
			places = append(places, i)
		}
	}
	return places
}

// great is a number without bounds.
func great(n uint64) *big.Int { return new(big.Int).SetUint64(n) }

// rhythmByProduct is the rhythm in another way: by products and sums that always fit.
func rhythmByProduct(l []api.Firing, start, period uint64) bool {
	for i, f := range l {
		deadline := new(big.Int).Mul(great(uint64(i)), great(period))
		if deadline.Add(deadline, great(start)).Cmp(great(f.Deadline)) != 0 {
			return false
		}
		if i > 0 && new(big.Int).Add(great(l[i-1].Gen), great(1)).Cmp(great(f.Gen)) != 0 {
			return false
		}
	}
	return true
}

// inOrder are firings in an order of their own, so that what is together can be held against what is together.
func inOrder(l []api.Firing) []api.Firing {
	return slices.SortedFunc(slices.Values(l), func(a, b api.Firing) int {
		return cmp.Or(cmp.Compare(a.Id, b.Id), cmp.Compare(a.Gen, b.Gen), cmp.Compare(a.Deadline, b.Deadline), cmp.Compare(a.Tick, b.Tick))
	})
}

// check asks a log for all that it tells, and holds it against a plain list.
func check(t *testing.T, l *firing.Log, want []api.Firing) {
	t.Helper()
	holds(t, l, want...)
	var ids []uint64
	for n := range uint64(9) {
		of := picked(want, func(f api.Firing) bool { return f.Id == n })
		same(t, "Of", l.Of(n), of)
		same(t, "At", l.At(n), picked(want, func(f api.Firing) bool { return f.Tick == n }))
		if len(of) > 0 {
			ids = append(ids, n)
		}
	}
	timers(t, l, ids...)
	faulty(t, l.All(), faultsBySearch(want)...)
	if t.Failed() {
		t.FailNow()
	}
}

// P12.1, P12.2

func TestLongRowsOfPuts(t *testing.T) {
	for seed := range 20 {
		d := dice(seed)
		l := made(t)
		var want []api.Firing
		for range 40 {
			next := d.some(d.below(5))
			l.Put(next...)
			want = append(want, next...)
			check(t, l, want)
		}
	}
}

func TestGreatLog(t *testing.T) {
	const many, timersOf = 200_000, 1000
	l := made(t)
	for i := range uint64(many) {
		l.Put(shot(timersOf-i%timersOf, i/timersOf, i, i))
	}
	all := l.All()
	if l.Len() != many || len(all) != many || len(l.Ids()) != timersOf || len(l.Of(7)) != many/timersOf {
		t.Errorf("Len %d, All %d, Ids %d, Of %d", l.Len(), len(all), len(l.Ids()), len(l.Of(7)))
	}
	for i, f := range all {
		if f.Tick != uint64(i) {
			t.Fatalf("All: %v at %d", f, i)
		}
	}
	faulty(t, all)
	if got := firing.Faults(slices.Concat(all, all)); len(got) != many || got[0] != many || got[many-1] != 2*many-1 {
		t.Errorf("Faults of the log and once more the log: %d", len(got))
	}
}

// P12.3

// TestRhythmAgainstGreatNumbers: starts and periods round the bits, at which a sum or a product no longer fits.
func TestRhythmAgainstGreatNumbers(t *testing.T) {
	edges := []uint64{0, 1, 2, 3, 1<<32 - 1, 1 << 32, 1<<62 - 1, 1 << 62, top / 5, top / 3, top/3 + 1, 1<<63 - 1, 1 << 63, 1<<63 + 1, top - 9, top - 3, top - 2, top - 1, top}
	kept, lost := 0, 0
	for _, start := range edges {
		for _, period := range edges {
			for _, gen := range edges {
				for n := range 6 {
					l := row(n, gen, start, period)
					got, want := firing.Rhythm(l, start, period), rhythmByProduct(l, start, period)
					if got != want {
						t.Fatalf("Rhythm(%v, %d, %d): %t, want %t", l, start, period, got, want)
					}
					if got {
						kept++
					} else {
						lost++
					}
				}
			}
		}
	}
	if kept < 1000 || lost < 1000 {
		t.Errorf("%d keep the rhythm and %d don't: the rows are too tame", kept, lost)
	}
}

// TestRhythmOfEveryLittleRow: each row of up to three firings of little deadlines and generations.
func TestRhythmOfEveryLittleRow(t *testing.T) {
	const kinds = 4 * 3
	for n := range 4 {
		rows := 1
		for range n {
			rows *= kinds
		}
		for number := range rows {
			var l []api.Firing
			rest := number
			for range n {
				l = append(l, shot(1, uint64(rest%3), uint64(rest/3%4), 9))
				rest /= kinds
			}
			for start := range uint64(4) {
				for period := range uint64(3) {
					if got, want := firing.Rhythm(l, start, period), rhythmByProduct(l, start, period); got != want {
						t.Fatalf("Rhythm(%v, %d, %d): %t, want %t", l, start, period, got, want)
					}
				}
			}
		}
	}
}

// P12.4

func TestFiringsOfAllTimersAreAll(t *testing.T) {
	for seed := range 50 {
		d := dice(seed)
		l := made(t, d.some(d.below(40))...)
		var together []api.Firing
		for _, id := range l.Ids() {
			of := l.Of(id)
			if len(of) == 0 {
				t.Errorf("Ids tells %d, which has no firing", id)
			}
			together = append(together, of...)
		}
		if len(together) != l.Len() {
			t.Errorf("%d firings of all timers, want %d", len(together), l.Len())
		}
		same(t, "the firings of all timers", inOrder(together), inOrder(l.All()))
	}
}

// faultless are firings that have no faults: no two alike in timer and generation, none early.
func (d *dice) faultless(n int) []api.Firing {
	var l []api.Firing
	for _, f := range d.some(n) {
		if len(firing.Faults(append(slices.Clone(l), f))) == 0 {
			l = append(l, f)
		}
	}
	return l
}

func TestPartsOfALogWithoutFaultsHaveNone(t *testing.T) {
	for seed := range 200 {
		d := dice(seed)
		l := made(t, d.faultless(25)...)
		faulty(t, l.All())
		for n := range uint64(9) {
			faulty(t, l.Of(n))
			faulty(t, l.At(n))
		}
		all := l.All()
		for range 30 {
			part := picked(all, func(api.Firing) bool { return d.below(2) == 0 })
			faulty(t, part)
			from := d.below(len(all) + 1)
			faulty(t, all[from:])
			faulty(t, all[:from])
		}
	}
}

// TestEveryPartOfALogWithoutFaults: each choice of ten firings, among them timers of several generations.
func TestEveryPartOfALogWithoutFaults(t *testing.T) {
	var all []api.Firing
	for i := range uint64(10) {
		all = append(all, shot(64+i%3, i/3, i, i+i%2))
	}
	faulty(t, all)
	for choice := range 1 << len(all) {
		var part []api.Firing
		for i, f := range all {
			if choice>>i&1 == 1 {
				part = append(part, f)
			}
		}
		faulty(t, part)
	}
}
