package lock_test

import (
	"math"
	"testing"

	"verge/api"
	"verge/lock"
)

// made is a lock that New must make.
func made(t *testing.T) *lock.Lock {
	t.Helper()
	l := lock.New()
	if l == nil {
		t.Fatal("New: nil")
	}
	return l
}

// takes tries to take a lock, and holds the answer against what is wanted.
func takes(t *testing.T, l *lock.Lock, who int, want bool) {
	t.Helper()
	if got := l.Try(who); got != want {
		t.Errorf("Try(%d): %t, want %t", who, got, want)
	}
}

// leaves leaves a lock, and holds the answer against what is wanted.
func leaves(t *testing.T, l *lock.Lock, who int, want api.Errno) {
	t.Helper()
	if got := l.Leave(who); got != want {
		t.Errorf("Leave(%d): %d, want %d", who, got, want)
	}
}

// isOf holds whose a lock is against what is wanted.
func isOf(t *testing.T, l *lock.Lock, want int) {
	t.Helper()
	if who, is := l.Owner(); who != want || !is {
		t.Errorf("Owner: %d, %t, want %d, true", who, is, want)
	}
}

// isNobodys asks a lock that is nobody's whose it is.
func isNobodys(t *testing.T, l *lock.Lock) {
	t.Helper()
	if who, is := l.Owner(); who != 0 || is {
		t.Errorf("Owner: %d, %t, want 0, false", who, is)
	}
}

// may asks whether one may have a lock.
func may(t *testing.T, l *lock.Lock, who int, want bool) {
	t.Helper()
	if got := l.May(who); got != want {
		t.Errorf("May(%d): %t, want %t", who, got, want)
	}
}

// turned holds how often a lock became somebody's against what is wanted.
func turned(t *testing.T, l *lock.Lock, want int) {
	t.Helper()
	if got := l.Turns(); got != want {
		t.Errorf("Turns: %d, want %d", got, want)
	}
}

func TestTheExample(t *testing.T) {
	l := made(t)
	takes(t, l, 3, true)
	takes(t, l, 4, false)
	leaves(t, l, 4, api.ErrState)
	leaves(t, l, 3, api.OK)
	takes(t, l, 4, true)
	isOf(t, l, 4)
	turned(t, l, 2)
}

// P10.1

func TestNew(t *testing.T) {
	l := made(t)
	isNobodys(t, l)
	turned(t, l, 0)
	for _, who := range several() {
		may(t, l, who, who >= 0)
	}
	isNobodys(t, l)
	turned(t, l, 0)
}

func TestNewMakesALockOfItsOwn(t *testing.T) {
	a, b := made(t), made(t)
	if a == b {
		t.Fatal("New answers one lock twice")
	}
	takes(t, a, 3, true)
	isNobodys(t, b)
	may(t, b, 3, true)
	turned(t, b, 0)
	leaves(t, b, 3, api.ErrState)
	isOf(t, a, 3)
	takes(t, b, 4, true)
	isOf(t, a, 3)
	isOf(t, b, 4)
	leaves(t, a, 3, api.OK)
	isOf(t, b, 4)
	may(t, b, 3, false)
	turned(t, a, 1)
	turned(t, b, 1)
}

func TestTryOfALockThatIsNobodys(t *testing.T) {
	for _, who := range several() {
		l := made(t)
		takes(t, l, who, who >= 0)
		if who < 0 {
			isNobodys(t, l)
			turned(t, l, 0)
			may(t, l, 0, true)
			takes(t, l, 0, true)
			continue
		}
		isOf(t, l, who)
		turned(t, l, 1)
	}
}

func TestTryOfALockThatIsSomebodys(t *testing.T) {
	for _, first := range several() {
		if first < 0 {
			continue
		}
		l := made(t)
		takes(t, l, first, true)
		for _, who := range several() {
			// That it is who's already makes no difference.
			takes(t, l, who, false)
			isOf(t, l, first)
			turned(t, l, 1)
		}
		leaves(t, l, first, api.OK)
		isNobodys(t, l)
	}
}

func TestLeaveOfALockThatIsNobodys(t *testing.T) {
	l := made(t)
	for range 2 {
		for _, who := range several() {
			want := api.ErrState
			if who < 0 {
				want = api.ErrInvalid
			}
			leaves(t, l, who, want)
			isNobodys(t, l)
			may(t, l, 0, true)
		}
		// The second round is of a lock that was somebody's.
		turns := l.Turns()
		takes(t, l, 5, true)
		leaves(t, l, 5, api.OK)
		turned(t, l, turns+1)
	}
}

func TestLeaveOfALockThatIsSomebodys(t *testing.T) {
	for _, owner := range several() {
		if owner < 0 {
			continue
		}
		l := made(t)
		takes(t, l, owner, true)
		for _, who := range several() {
			if who == owner {
				continue
			}
			want := api.ErrState
			if who < 0 {
				want = api.ErrInvalid
			}
			leaves(t, l, who, want)
			isOf(t, l, owner)
			may(t, l, who, false)
		}
		leaves(t, l, owner, api.OK)
		isNobodys(t, l)
		turned(t, l, 1)
		leaves(t, l, owner, api.ErrState)
		isNobodys(t, l)
	}
}

// TestWhichErrorComesFirst: a number below 0 has never a lock, so both errors apply.
func TestWhichErrorComesFirst(t *testing.T) {
	l := made(t)
	leaves(t, l, -1, api.ErrInvalid)
	leaves(t, l, math.MinInt, api.ErrInvalid)
	takes(t, l, 1, true)
	leaves(t, l, -1, api.ErrInvalid)
	leaves(t, l, math.MinInt, api.ErrInvalid)
	leaves(t, l, 1, api.OK)
	leaves(t, l, -1, api.ErrInvalid)
}

// P10.2

func TestOwner(t *testing.T) {
	l := made(t)
	isNobodys(t, l)
	for _, who := range []int{0, 7, 0, 1, math.MaxInt, 1} {
		takes(t, l, who, true)
		isOf(t, l, who)
		isOf(t, l, who)
		leaves(t, l, who, api.OK)
		isNobodys(t, l)
		isNobodys(t, l)
	}
}

func TestMay(t *testing.T) {
	l := made(t)
	for _, owner := range []int{0, 7, math.MaxInt} {
		for _, who := range several() {
			may(t, l, who, who >= 0)
		}
		takes(t, l, owner, true)
		for _, who := range several() {
			may(t, l, who, false)
		}
		leaves(t, l, owner, api.OK)
	}
	for _, who := range several() {
		may(t, l, who, who >= 0)
	}
}

// TestMayIsWhatTryWouldSay: of a lock that was asked by May Try says the same.
func TestMayIsWhatTryWouldSay(t *testing.T) {
	for _, owner := range []int{nobody, 0, 1, 64} {
		for _, who := range several() {
			l := made(t)
			l.Try(owner)
			asked := l.May(who)
			takes(t, l, who, asked)
		}
	}
}

func TestTurns(t *testing.T) {
	l := made(t)
	turned(t, l, 0)
	takes(t, l, -1, false)
	turned(t, l, 0)
	leaves(t, l, 3, api.ErrState)
	turned(t, l, 0)
	for n := range 100 {
		who := n % 7
		takes(t, l, who, true)
		turned(t, l, n+1)
		takes(t, l, who, false)
		takes(t, l, who+1, false)
		takes(t, l, math.MinInt, false)
		turned(t, l, n+1)
		leaves(t, l, who+1, api.ErrState)
		leaves(t, l, -1, api.ErrInvalid)
		turned(t, l, n+1)
		leaves(t, l, who, api.OK)
		turned(t, l, n+1)
	}
}

func TestANilLock(t *testing.T) {
	var l *lock.Lock
	for range 2 {
		for _, who := range several() {
			takes(t, l, who, false)
			leaves(t, l, who, api.ErrState)
			may(t, l, who, false)
			isNobodys(t, l)
			turned(t, l, 0)
		}
	}
}

// P10.3

// TestNeverTwo lets several try in every order: one has it, the first that tried, till he leaves it.
func TestNeverTwo(t *testing.T) {
	const n = 5
	for first := range n {
		for next := range n {
			l := made(t)
			var have []int
			for i := range n {
				if who := (first + i*(next+1)) % n; l.Try(who) {
					have = append(have, who)
				}
			}
			if len(have) != 1 || have[0] != first {
				t.Errorf("%v have it, want %d alone", have, first)
			}
			isOf(t, l, first)
			leaves(t, l, first, api.OK)
			takes(t, l, next, true)
			isOf(t, l, next)
		}
	}
}

// TestEveryShortRow goes through all rows of calls of three numbers, one of them below 0.
func TestEveryShortRow(t *testing.T) {
	const length = 6
	callers := []int{0, 1, -1}
	kinds := 2 * len(callers)
	rows := 1
	for range length {
		rows *= kinds
	}
	for row := range rows {
		b := newBench(t, callers...)
		for range length {
			who := callers[row%kinds/2]
			if row%2 == 0 {
				b.try(who)
			} else {
				b.leave(who)
			}
			b.check()
			row /= kinds
		}
	}
}

func TestLongRows(t *testing.T) {
	for seed := range 40 {
		d := dice(seed)
		callers := several()[:1+d.below(len(several()))]
		b := newBench(t, callers...)
		for range 2000 {
			who := callers[d.below(len(callers))]
			switch d.below(4) {
			case 0, 1:
				b.try(who)
			case 2:
				b.leave(who)
			case 3:
				b.leave(b.owner)
			}
			b.check()
		}
		if b.turns < 100 {
			t.Errorf("row %d took the lock %d times only", seed, b.turns)
		}
	}
}

// TestWhoHasItHasItTillHeLeavesIt lets several work in turns, each for a while, and asks at each step who may write.
func TestWhoHasItHasItTillHeLeavesIt(t *testing.T) {
	const callers = 8
	for seed := range 20 {
		d, l := dice(seed), made(t)
		var inside [callers]bool
		for range 3000 {
			who := d.below(callers)
			if inside[who] && d.below(3) == 0 {
				leaves(t, l, who, api.OK)
				inside[who] = false
			} else if l.Try(who) {
				if inside[who] {
					t.Fatalf("%d took what he has", who)
				}
				inside[who] = true
			}
			alone(t, l, inside[:])
		}
	}
}

// alone asks that no two are inside, and that the lock says who is.
func alone(t *testing.T, l *lock.Lock, inside []bool) {
	t.Helper()
	n := 0
	for who, is := range inside {
		if is {
			n++
			isOf(t, l, who)
		}
		if owner, taken := l.Owner(); taken && owner == who && !is {
			t.Fatalf("it is %d's, who didn't take it", who)
		}
	}
	if n > 1 {
		t.Fatalf("%d have it at once", n)
	}
	if n == 0 {
		isNobodys(t, l)
	}
}
