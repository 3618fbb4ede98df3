package lock_test

import (
	"math"
	"testing"

	"verge/api"
	"verge/lock"
)

// nobody is whose a lock is in the model, if it is nobody's.
const nobody = -1

// bench is a lock, and what must be so behind the same calls.
type bench struct {
	t     *testing.T
	l     *lock.Lock
	owner int
	turns int
	// tellers are those for whom May and errors are asked.
	tellers []int
}

func newBench(t *testing.T, tellers ...int) *bench {
	t.Helper()
	return &bench{t: t, l: made(t), owner: nobody, tellers: tellers}
}

// try takes the lock for one, here and there.
func (b *bench) try(who int) bool {
	b.t.Helper()
	want := false
	if who >= 0 && b.owner == nobody {
		b.owner, want = who, true
		b.turns++
	}
	if got := b.l.Try(who); got != want {
		b.t.Fatalf("Try(%d): %t, want %t", who, got, want)
	}
	return want
}

// leave lets one leave it, here and there.
func (b *bench) leave(who int) api.Errno {
	b.t.Helper()
	want := api.OK
	switch {
	case who < 0:
		want = api.ErrInvalid
	case who != b.owner:
		want = api.ErrState
	default:
		b.owner = nobody
	}
	if got := b.l.Leave(who); got != want {
		b.t.Fatalf("Leave(%d): %d, want %d", who, got, want)
	}
	return want
}

// check asks the lock for all that it tells, twice: to ask changes nothing.
func (b *bench) check() {
	b.t.Helper()
	for range 2 {
		if b.owner == nobody {
			isNobodys(b.t, b.l)
		} else {
			isOf(b.t, b.l, b.owner)
		}
		for _, who := range b.tellers {
			may(b.t, b.l, who, who >= 0 && b.owner == nobody)
		}
		turned(b.t, b.l, b.turns)
	}
}

// dice is a row of numbers that is the same one in every run.
type dice uint64

func (d *dice) below(n int) int {
	*d = *d*6364136223846793005 + 1442695040888963407
	return int(uint64(*d) >> 33 % uint64(n))
}

// several are numbers of which a lock may be, or may not.
func several() []int {
	return []int{0, 1, 2, 3, 7, 8, 63, 64, 1 << 32, math.MaxInt - 1, math.MaxInt, -1, -2, -64, math.MinInt + 1, math.MinInt}
}
