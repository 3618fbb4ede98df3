package pipe_test

import (
	"math"
	"slices"
	"testing"

	"verge/api"
	"verge/pipe"
)

// place is a struct whose values can't be compared: a pipe is of any type.
type place struct {
	name string
	at   []int
}

// made is an empty pipe that New must make.
func made[T any](t *testing.T, n int) *pipe.Pipe[T] {
	t.Helper()
	p, e := pipe.New[T](n)
	if p == nil || e != api.OK {
		t.Fatalf("New(%d): %v, %d, want a pipe, %d", n, p, e, api.OK)
	}
	return p
}

// puts puts a thing in, and holds the answer against what is wanted.
func puts[T any](t *testing.T, p *pipe.Pipe[T], v T, spilled bool) {
	t.Helper()
	if s, e := p.Put(v); s != spilled || e != api.OK {
		t.Errorf("Put(%v): %t, %d, want %t, %d", v, s, e, spilled, api.OK)
	}
}

// refuses asks a pipe to take in a thing that it doesn't.
func refuses[T any](t *testing.T, p *pipe.Pipe[T], v T, want api.Errno) {
	t.Helper()
	if s, e := p.Put(v); s || e != want {
		t.Errorf("Put(%v): %t, %d, want false, %d", v, s, e, want)
	}
}

// takes takes things, and holds them against what is wanted.
func takes[T comparable](t *testing.T, p *pipe.Pipe[T], want ...T) {
	t.Helper()
	for _, w := range want {
		if v, e := p.Take(); v != w || e != api.OK {
			t.Errorf("Take: %v, %d, want %v, %d", v, e, w, api.OK)
		}
	}
}

// takesNone takes where nothing is.
func takesNone[T comparable](t *testing.T, p *pipe.Pipe[T]) {
	t.Helper()
	var zero T
	if v, e := p.Take(); v != zero || e != api.ErrNone {
		t.Errorf("Take: %v, %d, want %v, %d", v, e, zero, api.ErrNone)
	}
}

// shuts shuts a pipe, and holds the answer against what is wanted.
func shuts[T any](t *testing.T, p *pipe.Pipe[T], want api.Errno) {
	t.Helper()
	if e := p.Shut(); e != want {
		t.Errorf("Shut: %d, want %d", e, want)
	}
}

// closed holds whether a pipe is closed against what is wanted.
func closed[T any](t *testing.T, p *pipe.Pipe[T], want bool) {
	t.Helper()
	if got := p.Closed(); got != want {
		t.Errorf("Closed: %t, want %t", got, want)
	}
}

// counts holds how many things there are, in all, in the spill, and there at most, against what is wanted.
func counts[T any](t *testing.T, p *pipe.Pipe[T], length, spilled, most int) {
	t.Helper()
	if p.Len() != length || p.Spilled() != spilled || p.Most() != most {
		t.Errorf("Len %d, Spilled %d, Most %d, want %d, %d, %d", p.Len(), p.Spilled(), p.Most(), length, spilled, most)
	}
}

// holds asks a pipe for all its things, twice: to ask changes nothing.
func holds[T comparable](t *testing.T, p *pipe.Pipe[T], want ...T) {
	t.Helper()
	for range 2 {
		if got := p.All(); !slices.Equal(got, want) {
			t.Errorf("All: %v, want %v", got, want)
		}
	}
}

func TestTheExample(t *testing.T) {
	p := made[string](t, 1)
	puts(t, p, "a", false)
	puts(t, p, "b", true)
	takes(t, p, "a")
	counts(t, p, 1, 0, 1)
	takes(t, p, "b")
	takesNone(t, p)
}

// P11.1

func TestNewOfEveryRoom(t *testing.T) {
	for n := 1; n <= api.MaxRoom; n++ {
		p := made[int](t, n)
		counts(t, p, 0, 0, 0)
		closed(t, p, false)
		holds(t, p)
		takesNone(t, p)
		for i := range n {
			puts(t, p, i, false)
		}
		puts(t, p, n, true)
		counts(t, p, n+1, 1, 1)
	}
}

func TestNewOfNoRoom(t *testing.T) {
	for _, n := range []int{0, 17, 18, 32, 64, math.MaxInt32, 1 << 32, 1<<32 + 1, math.MaxInt, -1, -2, -16, math.MinInt32, math.MinInt + 1, math.MinInt} {
		if p, e := pipe.New[int](n); p != nil || e != api.ErrRange {
			t.Errorf("New(%d): %v, %d, want nil, %d", n, p, e, api.ErrRange)
		}
	}
}

func TestPutGoesIntoTheChannelWhileThatHasRoom(t *testing.T) {
	p := made[int](t, 3)
	for i, spilled := range []bool{false, false, false, true, true, true} {
		puts(t, p, i, spilled)
		counts(t, p, i+1, max(0, i-2), max(0, i-2))
	}
	takes(t, p, 0, 1, 2, 3, 4, 5)
}

func TestTakeLetsTheFirstOfTheSpillIn(t *testing.T) {
	p := made[int](t, 2)
	for i := range 4 {
		puts(t, p, i, i >= 2)
	}
	takes(t, p, 0)
	counts(t, p, 3, 1, 2)
	holds(t, p, 1, 2, 3)
	// The spill's first thing has taken the room that came: what is put now stands behind the spill's other one.
	puts(t, p, 4, true)
	counts(t, p, 4, 2, 2)
	holds(t, p, 1, 2, 3, 4)
	takes(t, p, 1, 2, 3, 4)
}

func TestPutIntoAFullChannelWithoutASpill(t *testing.T) {
	p := made[int](t, 2)
	for i := range 3 {
		puts(t, p, i, i >= 2)
	}
	// The spill is empty, and yet there is no room: its thing stands in the channel.
	takes(t, p, 0)
	counts(t, p, 2, 0, 1)
	puts(t, p, 3, true)
	counts(t, p, 3, 1, 1)
	takes(t, p, 1, 2, 3)
}

func TestPutBehindTakesThatMadeRoom(t *testing.T) {
	p := made[int](t, 2)
	for i := range 4 {
		puts(t, p, i, i >= 2)
	}
	takes(t, p, 0, 1, 2)
	counts(t, p, 1, 0, 2)
	puts(t, p, 4, false)
	counts(t, p, 2, 0, 2)
	puts(t, p, 5, true)
	counts(t, p, 3, 1, 2)
	takes(t, p, 3, 4, 5)
	puts(t, p, 6, false)
	takes(t, p, 6)
	takesNone(t, p)
}

func TestTakeOfTheChannelAlone(t *testing.T) {
	p := made[int](t, 3)
	for i := range 3 {
		puts(t, p, i, false)
	}
	for i := range 3 {
		takes(t, p, i)
		counts(t, p, 2-i, 0, 0)
	}
	takesNone(t, p)
	takesNone(t, p)
	counts(t, p, 0, 0, 0)
	puts(t, p, 7, false)
	takes(t, p, 7)
}

func TestTakeOfTheChannelAndTheSpill(t *testing.T) {
	p := made[int](t, 2)
	for i := range 6 {
		puts(t, p, i, i >= 2)
	}
	for i := range 6 {
		takes(t, p, i)
		counts(t, p, 5-i, max(0, 3-i), 4)
	}
	takesNone(t, p)
}

func TestPutAndTakeOfAShutPipe(t *testing.T) {
	p := made[int](t, 1)
	for i := range 3 {
		puts(t, p, i, i >= 1)
	}
	shuts(t, p, api.OK)
	for i := range 3 {
		refuses(t, p, 9, api.ErrClosed)
		counts(t, p, 3-i, max(0, 2-i), 2)
		// What is in the spill goes through the channel, though the pipe is shut.
		takes(t, p, i)
	}
	refuses(t, p, 9, api.ErrClosed)
	takesNone(t, p)
	counts(t, p, 0, 0, 2)
	holds(t, p)
}

func TestPutIntoAShutPipeThatHasRoom(t *testing.T) {
	p := made[int](t, 3)
	puts(t, p, 1, false)
	shuts(t, p, api.OK)
	refuses(t, p, 2, api.ErrClosed)
	refuses(t, p, 0, api.ErrClosed)
	counts(t, p, 1, 0, 0)
	holds(t, p, 1)
}

func TestZeroThingsAreThings(t *testing.T) {
	p := made[int](t, 1)
	for i := range 3 {
		puts(t, p, 0, i >= 1)
	}
	counts(t, p, 3, 2, 2)
	holds(t, p, 0, 0, 0)
	takes(t, p, 0, 0, 0)
	takesNone(t, p)
}

// P11.2

func TestShut(t *testing.T) {
	for _, things := range []int{0, 1, 2, 3, 20} {
		p := made[int](t, 2)
		for i := range things {
			puts(t, p, i, i >= 2)
		}
		spilled := max(0, things-2)
		shuts(t, p, api.OK)
		for range 3 {
			counts(t, p, things, spilled, spilled)
			closed(t, p, things == 0)
			shuts(t, p, api.ErrClosed)
		}
		for i := range things {
			takes(t, p, i)
			shuts(t, p, api.ErrClosed)
			closed(t, p, i == things-1)
		}
	}
}

func TestClosedIsShutAndEmpty(t *testing.T) {
	p := made[int](t, 1)
	closed(t, p, false)
	puts(t, p, 1, false)
	puts(t, p, 2, true)
	closed(t, p, false)
	takes(t, p, 1, 2)
	// Empty, and not shut.
	closed(t, p, false)
	puts(t, p, 3, false)
	puts(t, p, 4, true)
	shuts(t, p, api.OK)
	closed(t, p, false)
	takes(t, p, 3)
	closed(t, p, false)
	takes(t, p, 4)
	closed(t, p, true)
	refuses(t, p, 5, api.ErrClosed)
	takesNone(t, p)
	closed(t, p, true)
}

func TestMostIsNeverLess(t *testing.T) {
	p := made[int](t, 1)
	for i := range 4 {
		puts(t, p, i, i >= 1)
		counts(t, p, i+1, i, i)
	}
	for i := range 4 {
		takes(t, p, i)
		counts(t, p, 3-i, max(0, 2-i), 3)
	}
	// A spill that is no greater leaves it, a greater one doesn't.
	for i := range 4 {
		puts(t, p, i, i >= 1)
		counts(t, p, i+1, i, 3)
	}
	for i := 4; i < 7; i++ {
		puts(t, p, i, true)
		counts(t, p, i+1, i, i)
	}
	takes(t, p, 0, 1, 2, 3, 4, 5, 6)
	counts(t, p, 0, 0, 6)
	shuts(t, p, api.OK)
	counts(t, p, 0, 0, 6)
}

func TestMostCountsTheSpillAlone(t *testing.T) {
	p := made[int](t, 4)
	for i := range 100 {
		puts(t, p, i, false)
		if i >= 3 {
			takes(t, p, i-3)
		}
	}
	counts(t, p, 3, 0, 0)
}

func TestAllOfTheChannelAndOfTheSpill(t *testing.T) {
	p := made[string](t, 2)
	holds(t, p)
	for i, v := range []string{"a", "b", "c", "d"} {
		puts(t, p, v, i >= 2)
		holds(t, p, []string{"a", "b", "c", "d"}[:i+1]...)
	}
	takes(t, p, "a")
	holds(t, p, "b", "c", "d")
	shuts(t, p, api.OK)
	holds(t, p, "b", "c", "d")
	takes(t, p, "b")
	holds(t, p, "c", "d")
	takes(t, p, "c")
	holds(t, p, "d")
	takes(t, p, "d")
	holds(t, p)
}

func TestAllChangesNothing(t *testing.T) {
	for things := range 6 {
		p := made[int](t, 3)
		for i := range things {
			puts(t, p, i, i >= 3)
		}
		spilled := max(0, things-3)
		for range 7 {
			p.All()
			counts(t, p, things, spilled, spilled)
		}
		puts(t, p, things, things >= 3)
		for i := range things + 1 {
			p.All()
			takes(t, p, i)
		}
		takesNone(t, p)
	}
}

func TestAllIsNewMemory(t *testing.T) {
	p := made[int](t, 2)
	for i := range 5 {
		puts(t, p, i, i >= 2)
	}
	one, two := p.All(), p.All()
	// The spare room is written, too: it is the answer's own.
	one = one[:cap(one)]
	for i := range one {
		one[i] = 99
	}
	if !slices.Equal(two, []int{0, 1, 2, 3, 4}) {
		t.Errorf("All: %v behind writes into another answer", two)
	}
	holds(t, p, 0, 1, 2, 3, 4)
	puts(t, p, 5, true)
	takes(t, p, 0, 1, 2)
	if !slices.Equal(two, []int{0, 1, 2, 3, 4}) {
		t.Errorf("All: %v behind a Put and Takes", two)
	}
	takes(t, p, 3, 4, 5)
}

func TestPipeOfStructs(t *testing.T) {
	p := made[api.Firing](t, 1)
	a := api.Firing{Id: 64, Gen: 1, Deadline: 3, Tick: 4}
	b := api.Firing{Id: 65, Gen: 2, Deadline: 5, Tick: 5}
	puts(t, p, a, false)
	puts(t, p, b, true)
	holds(t, p, a, b)
	takes(t, p, a, b)
	takesNone(t, p)
}

func TestPipeOfWhatCannotBeCompared(t *testing.T) {
	p := made[place](t, 1)
	for i, name := range []string{"x", "y", "z"} {
		puts(t, p, place{name, []int{i}}, i >= 1)
	}
	for i, v := range p.All() {
		if v.name != []string{"x", "y", "z"}[i] || !slices.Equal(v.at, []int{i}) {
			t.Errorf("All: %v at %d", v, i)
		}
	}
	for i, name := range []string{"x", "y", "z"} {
		if v, e := p.Take(); v.name != name || !slices.Equal(v.at, []int{i}) || e != api.OK {
			t.Errorf("Take: %v, %d", v, e)
		}
	}
	if v, e := p.Take(); v.name != "" || v.at != nil || e != api.ErrNone {
		t.Errorf("Take: %v, %d, want a zero place, %d", v, e, api.ErrNone)
	}
}

func TestPipeOfPointersFunctionsAndPipes(t *testing.T) {
	x := 5
	pointers := made[*int](t, 1)
	puts(t, pointers, nil, false)
	puts(t, pointers, &x, true)
	takes(t, pointers, nil, &x)
	takesNone(t, pointers)
	functions := made[func() int](t, 1)
	functions.Put(func() int { return 7 })
	functions.Put(func() int { return 8 })
	for want := 7; want <= 8; want++ {
		if f, e := functions.Take(); f == nil || f() != want || e != api.OK {
			t.Errorf("Take: no function that answers %d, %d", want, e)
		}
	}
	if f, e := functions.Take(); f != nil || e != api.ErrNone {
		t.Errorf("Take: a function, %d, want nil, %d", e, api.ErrNone)
	}
	pipes := made[*pipe.Pipe[*int]](t, 1)
	puts(t, pipes, pointers, false)
	takes(t, pipes, pointers)
}

func TestPipesAreApart(t *testing.T) {
	p, q := made[int](t, 1), made[int](t, 1)
	for i := range 3 {
		puts(t, p, i, i >= 1)
	}
	counts(t, q, 0, 0, 0)
	takesNone(t, q)
	shuts(t, p, api.OK)
	closed(t, q, false)
	puts(t, q, 9, false)
	shuts(t, q, api.OK)
	takes(t, q, 9)
	closed(t, q, true)
	closed(t, p, false)
	holds(t, p, 0, 1, 2)
}

// bare asks a pipe that New didn't make for everything.
func bare(t *testing.T, p *pipe.Pipe[int]) {
	t.Helper()
	for range 2 {
		refuses(t, p, 1, api.ErrNone)
		takesNone(t, p)
		shuts(t, p, api.ErrNone)
		closed(t, p, false)
		counts(t, p, 0, 0, 0)
		holds(t, p)
	}
}

func TestNilPipe(t *testing.T) {
	bare(t, nil)
	var words *pipe.Pipe[string]
	refuses(t, words, "a", api.ErrNone)
	takesNone(t, words)
	holds(t, words)
}

// Of a zero pipe nothing is said; it must not wait for ever, and it answers as a nil one does.
func TestZeroPipe(t *testing.T) { bare(t, &pipe.Pipe[int]{}) }
