package floor_test

import (
	"math"
	"slices"
	"testing"

	"verge/api"
	"verge/floor"
	"verge/ring"
	"verge/shard"
	"verge/slab"
	"verge/word"
)

const top = uint64(math.MaxUint64)

// least and greatest are the configs that may be of which each number is the least, or the greatest, that it may be.
func least() api.Config {
	return api.Config{Shards: 1, Cap: 1, Ring: 1, Room: 1, Workers: 1, Clients: 1}
}

func greatest() api.Config {
	return api.Config{Shards: 4, Cap: 64, Ring: 64, Room: 16, Workers: 4, Clients: 8}
}

// other is a config that may be, of which no two numbers are one.
func other() api.Config {
	return api.Config{Shards: 3, Cap: 10, Ring: 2, Room: 5, Workers: 4, Clients: 6}
}

// numbers are those of a config, each where it stands.
func numbers(c *api.Config) []*int {
	return []*int{&c.Shards, &c.Cap, &c.Ring, &c.Room, &c.Workers, &c.Clients}
}

// most is the greatest that each number of a config may be.
func most() []int { return []int{4, 64, 64, 16, 4, 8} }

// made is a floor that New must make.
func made(t *testing.T, c api.Config) *floor.Floor {
	t.Helper()
	f, err := floor.New(c)
	if f == nil || err != api.OK {
		t.Fatalf("New(%v): %p, %d", c, f, err)
	}
	return f
}

// from is a floor whose time is now.
func from(t *testing.T, now uint64) *floor.Floor {
	t.Helper()
	f, err := floor.From(other(), now)
	if err != api.OK {
		t.Fatal(err)
	}
	return f
}

// mayBe holds what Check and New say of a config against whether it may be.
func mayBe(t *testing.T, c api.Config, want bool) {
	t.Helper()
	err := floor.Check(c)
	f, newErr := floor.New(c)
	switch {
	case err != newErr || (f != nil) != want:
		t.Errorf("%v: Check: %d, New: %p, %d", c, err, f, newErr)
	case want && err != api.OK, !want && err != api.ErrConfig:
		t.Errorf("%v: %d, and may it be: %t", c, err, want)
	}
	if f != nil && f.Config() != c {
		t.Errorf("Config: %v, want %v", f.Config(), c)
	}
}

// counts holds how many are inside, and busy, against what is wanted.
func counts(t *testing.T, f *floor.Floor, inside, busy int) {
	t.Helper()
	if i, b := f.Inside(), f.Busy(); i != inside || b != busy {
		t.Errorf("Inside, Busy: %d, %d, want %d, %d", i, b, inside, busy)
	}
}

// is holds an error against what is wanted.
func is(t *testing.T, got, want api.Errno) {
	t.Helper()
	if got != want {
		t.Errorf("answered %d, want %d", got, want)
	}
}

// closed holds whether a floor is closed against what is wanted.
func closed(t *testing.T, f *floor.Floor, want bool) {
	t.Helper()
	if got := f.Closed(); got != want {
		t.Errorf("Closed: %t, want %t", got, want)
	}
}

// shuts shuts a floor, and holds the answer against what is wanted.
func shuts(t *testing.T, f *floor.Floor, want bool) {
	t.Helper()
	if got := f.Shut(); got != want {
		t.Errorf("Shut: %t, want %t", got, want)
	}
	closed(t, f, true)
}

// turns lets the time go on: it must be this one then.
func turns(t *testing.T, f *floor.Floor, want uint64) {
	t.Helper()
	if now, err := f.Turn(); now != want || err != api.OK {
		t.Errorf("Turn: %d, %d, want %d", now, err, want)
	}
	isNow(t, f, want)
}

// isNow holds the time against what is wanted.
func isNow(t *testing.T, f *floor.Floor, want uint64) {
	t.Helper()
	if now := f.Now(); now != want {
		t.Errorf("Now: %d, want %d", now, want)
	}
}

// traced holds the trace against what is wanted.
func traced(t *testing.T, f *floor.Floor, want ...api.Event) {
	t.Helper()
	if got := f.Trace(); !slices.Equal(got, want) {
		t.Errorf("Trace: %v, want %v", got, want)
	}
}

// numbered holds a slot's greatest number against what is wanted.
func numbered(t *testing.T, f *floor.Floor, slot int, want uint64) {
	t.Helper()
	if id, err := f.Number(slot); id != want || err != api.OK {
		t.Errorf("Number(%d): %d, %d, want %d", slot, id, err, want)
	}
}

// unnumbered asks for the number of a slot that has none.
func unnumbered(t *testing.T, f *floor.Floor, slot int, want api.Errno) {
	t.Helper()
	if id, err := f.Number(slot); id != 0 || err != want {
		t.Errorf("Number(%d): %d, %d, want 0, %d", slot, id, err, want)
	}
}

// gives lets a request, which works alone, take a record: it must have this number.
func gives(t *testing.T, f *floor.Floor, want uint64) {
	t.Helper()
	r := f.Slab().Begin(0)
	// Behind so many steps it holds one, if there is one (chapter 9).
	for range f.Config().Cap + 2 {
		r.Step()
	}
	if id, err := r.Id(); id != want || err != api.OK {
		t.Fatalf("%d, %d is given, want %d", id, err, want)
	}
}

// frees lets a slot, whose record is pending, be free again.
func frees(t *testing.T, f *floor.Floor, slot int) {
	t.Helper()
	happens(t, f, slot, word.Finish)
	is(t, f.Slab().Drop(), api.OK)
}

// happens lets events happen to a slot's word.
func happens(t *testing.T, f *floor.Floor, slot int, events ...int) {
	t.Helper()
	for _, event := range events {
		w, _ := f.Slab().Word(slot)
		if _, err := f.Slab().Try(slot, w, event); err != api.OK {
			t.Fatalf("event %d of slot %d: %d", event, slot, err)
		}
	}
}

// parts are all things that a floor hands out.
func parts(f *floor.Floor) []any {
	l := []any{f.Slab(), f.Pipe(), f.Log()}
	for i := range f.Config().Shards {
		l = append(l, f.Shard(i))
	}
	return l
}

// isNew holds what a floor tells against what a new one has to.
func isNew(t *testing.T, f *floor.Floor, c api.Config) {
	t.Helper()
	if got := f.Config(); got != c {
		t.Errorf("Config: %v, want %v", got, c)
	}
	counts(t, f, 0, 0)
	closed(t, f, false)
	isNow(t, f, 0)
	traced(t, f)
	for slot := range c.Cap {
		unnumbered(t, f, slot, api.ErrNone)
	}
	unnumbered(t, f, c.Cap, api.ErrRange)
	if n := f.Slab().Count(); n != 0 {
		t.Errorf("the slab counts %d", n)
	}
	if n := f.Pipe().Len(); n != 0 || f.Pipe().Closed() {
		t.Errorf("the pipe has %d things", n)
	}
	if n := f.Log().Len(); n != 0 {
		t.Errorf("the log has %d firings", n)
	}
	for i := range c.Shards {
		isNewShard(t, f.Shard(i))
	}
}

// isNewShard holds what a shard tells against what a new one has to.
func isNewShard(t *testing.T, s *shard.Shard) {
	t.Helper()
	if s.Waiting() != 0 || s.Armed() != 0 || s.Now() != 0 || s.Lock().Turns() != 0 {
		t.Errorf("a shard has %d that wait, %d that are armed, the time %d, and was locked %d times",
			s.Waiting(), s.Armed(), s.Now(), s.Lock().Turns())
	}
}

func TestTheExamples(t *testing.T) {
	c := other()
	c.Shards = 2
	f := made(t, c)
	if f.Home(3) == nil || f.Home(3) != f.Shard(1) {
		t.Error("Home(3) isn't Shard(1)")
	}
	shuts(t, f, true)
	shuts(t, f, false)
}

// P14.1

func TestCheckAndNewOfEachNumber(t *testing.T) {
	for _, base := range []api.Config{least(), greatest(), other()} {
		mayBe(t, base, true)
		for i, highest := range most() {
			for n := -2; n <= 140; n++ {
				c := base
				*numbers(&c)[i] = n
				mayBe(t, c, n >= 1 && n <= highest)
			}
			for _, n := range []int{math.MinInt, math.MinInt + 1, -1 << 32, 1 << 32, 1<<32 + 1, math.MaxInt} {
				c := base
				*numbers(&c)[i] = n
				mayBe(t, c, false)
			}
		}
	}
}

// TestCheckOfEveryEdge holds every config of which each number is 0, 1, the greatest that it may be, or one more.
func TestCheckOfEveryEdge(t *testing.T) {
	for row := range 1 << 12 {
		var c api.Config
		may := true
		for i, n := range numbers(&c) {
			edge := row >> (2 * i) & 3
			*n = []int{0, 1, most()[i], most()[i] + 1}[edge]
			may = may && (edge == 1 || edge == 2)
		}
		mayBe(t, c, may)
	}
}

func TestANewFloor(t *testing.T) {
	for _, c := range []api.Config{least(), greatest(), other()} {
		f := made(t, c)
		// To ask changes nothing.
		isNew(t, f, c)
		isNew(t, f, c)
	}
}

func TestTheSlabsRoom(t *testing.T) {
	for n := 1; n <= 64; n++ {
		c := other()
		c.Cap = n
		f := made(t, c)
		for slot := range n {
			gives(t, f, uint64(64+slot))
		}
		if s := f.Slab().Begin(0).Step(); s != slab.Full || f.Slab().Count() != n {
			t.Errorf("the slab for %d: %d, and counts %d", n, s, f.Slab().Count())
		}
	}
}

func TestTheRingsRoom(t *testing.T) {
	for n := 1; n <= 64; n++ {
		c := other()
		c.Ring = n
		f := made(t, c)
		for i := range c.Shards {
			for range n {
				if s := ticketEnd(f.Shard(i)); s != ring.Held {
					t.Errorf("shard %d with room for %d: %d", i, n, s)
				}
			}
			if s := ticketEnd(f.Shard(i)); s != ring.Full || f.Shard(i).Waiting() != n {
				t.Errorf("shard %d with room for %d: %d, and %d wait", i, n, s, f.Shard(i).Waiting())
			}
		}
	}
}

// ticketEnd is how a ticket ends that works alone.
func ticketEnd(s *shard.Shard) ring.Status {
	k := s.Begin()
	for range 2 {
		k.Step()
	}
	return k.Step()
}

func TestThePipesRoom(t *testing.T) {
	for n := 1; n <= 16; n++ {
		c := other()
		c.Room = n
		f := made(t, c)
		for i := range n + 2 {
			spilled, err := f.Pipe().Put(api.Firing{Id: uint64(i)})
			if spilled != (i >= n) || err != api.OK {
				t.Errorf("put %d of a pipe with room for %d: %t, %d", i, n, spilled, err)
			}
		}
		if v, err := f.Pipe().Take(); v.Id != 0 || err != api.OK || f.Pipe().Spilled() != 1 {
			t.Errorf("took %v, %d, and %d are in the spill", v, err, f.Pipe().Spilled())
		}
	}
}

// TestEachNumberIsOneThingsRoom: no number of a config plays a part in another one's room.
func TestEachNumberIsOneThingsRoom(t *testing.T) {
	f := made(t, api.Config{Shards: 4, Cap: 3, Ring: 2, Room: 1, Workers: 4, Clients: 8})
	for slot := range 3 {
		gives(t, f, uint64(64+slot))
	}
	if s := f.Slab().Begin(0).Step(); s != slab.Full {
		t.Errorf("the slab: %d", s)
	}
	for i := range 4 {
		if a, b, c := ticketEnd(f.Shard(i)), ticketEnd(f.Shard(i)), ticketEnd(f.Shard(i)); a != ring.Held || b != ring.Held || c != ring.Full {
			t.Errorf("shard %d: %d, %d, %d", i, a, b, c)
		}
	}
	a, _ := f.Pipe().Put(api.Firing{})
	b, _ := f.Pipe().Put(api.Firing{})
	if a || !b {
		t.Errorf("the pipe: %t, %t", a, b)
	}
	if f.Shard(4) != nil {
		t.Error("there is a fifth shard")
	}
}

func TestEachIsTheSameThingAtEachCall(t *testing.T) {
	f := made(t, greatest())
	first := parts(f)
	for i, p := range first {
		if slices.Index(first, p) != i {
			t.Errorf("part %d is part %d, too", i, slices.Index(first, p))
		}
	}
	same := func() {
		t.Helper()
		if !slices.Equal(parts(f), first) {
			t.Fatal("a part is another one")
		}
	}
	same()
	for _, do := range []func(){
		func() { f.Enter() }, func() { f.Leave() }, func() { f.Work(true) }, func() { f.Work(false) }, func() { f.Turn() },
		func() { f.Note(api.Event{Kind: 1}) }, func() { f.Shut() }, func() { f.Number(0) }, func() { gives(t, f, 64) },
		func() { f.Shard(0).Turn() }, func() { f.Pipe().Shut() }, func() { f.Log().Put(api.Firing{}) }, func() { f.Shut() },
	} {
		do()
		same()
	}
}

// TestPartsAreTheThingsThemselves: what is done to a part that was handed out is there when it is handed out again.
func TestPartsAreTheThingsThemselves(t *testing.T) {
	f := made(t, other())
	f.Slab().Begin(0).Step()
	gives(t, f, 64)
	if f.Slab().Count() != 1 {
		t.Errorf("the slab counts %d", f.Slab().Count())
	}
	f.Shard(1).Lock().Try(7)
	f.Shard(1).Arm(api.Task{Id: 5})
	if who, ok := f.Shard(1).Lock().Owner(); who != 7 || !ok || f.Shard(1).Armed() != 1 {
		t.Errorf("shard 1 is %d's (%t), and %d are armed", who, ok, f.Shard(1).Armed())
	}
	isNewShard(t, f.Shard(0))
	isNewShard(t, f.Shard(2))
	f.Pipe().Put(api.Firing{Id: 64})
	if v, err := f.Pipe().Take(); v.Id != 64 || err != api.OK {
		t.Errorf("took %v, %d", v, err)
	}
	f.Log().Put(api.Firing{Id: 65})
	if l := f.Log().All(); len(l) != 1 || l[0].Id != 65 {
		t.Errorf("the log has %v", l)
	}
}

func TestShardOfEachNumber(t *testing.T) {
	for n := 1; n <= 4; n++ {
		c := other()
		c.Shards = n
		f := made(t, c)
		for i := range n {
			if f.Shard(i) == nil || f.Shard(i) != f.Shard(i) {
				t.Errorf("Shard(%d) of %d: %p", i, n, f.Shard(i))
			}
			for j := range i {
				if f.Shard(i) == f.Shard(j) || f.Shard(i).Lock() == f.Shard(j).Lock() {
					t.Errorf("the shards %d and %d are one", i, j)
				}
			}
		}
		for _, i := range []int{math.MinInt, -4, -3, -2, -1, n, n + 1, 4, 5, 64, 1 << 32, math.MaxInt} {
			if s := f.Shard(i); s != nil {
				t.Errorf("Shard(%d) of %d: %p", i, n, s)
			}
		}
	}
}

// homes are slots, of which each shard is a home, round each edge.
func homes() []int {
	l := []int{math.MaxInt - 3, math.MaxInt - 2, math.MaxInt - 1, math.MaxInt, 1 << 32, 1<<32 + 1, 1<<32 + 2, 1<<32 + 3}
	for slot := range 140 {
		l = append(l, slot)
	}
	return l
}

func TestHomeOfEachSlot(t *testing.T) {
	for n := 1; n <= 4; n++ {
		for _, room := range []int{1, 5, 64} {
			c := other()
			c.Shards, c.Cap = n, room
			f := made(t, c)
			// By its home alone a slot isn't one that there isn't: its room plays no part.
			for _, slot := range homes() {
				if h := f.Home(slot); h == nil || h != f.Shard(slot-slot/n*n) {
					t.Errorf("Home(%d) of %d: %p", slot, n, h)
				}
			}
			for _, slot := range []int{-1, -2, -3, -4, -8, -12, -64, -1 << 32, math.MinInt, math.MinInt + 1, math.MinInt + 2} {
				if h := f.Home(slot); h != nil {
					t.Errorf("Home(%d) of %d: %p", slot, n, h)
				}
			}
		}
	}
}

func TestFloorsShareNothing(t *testing.T) {
	f, o := made(t, other()), made(t, other())
	for i, p := range parts(f) {
		if slices.Contains(parts(o), p) {
			t.Errorf("part %d is another floor's, too", i)
		}
	}
	f.Enter()
	f.Work(true)
	f.Shut()
	f.Turn()
	f.Note(api.Event{Kind: 3})
	gives(t, f, 64)
	f.Pipe().Put(api.Firing{})
	f.Pipe().Shut()
	f.Log().Put(api.Firing{})
	for i := range 3 {
		f.Shard(i).Lock().Try(0)
		f.Shard(i).Turn()
		ticketEnd(f.Shard(i))
	}
	isNew(t, o, other())
}

// P14.2

func TestInsideAndBusyBehindEach(t *testing.T) {
	f := made(t, other())
	for n := 1; n <= 100; n++ {
		f.Enter()
		counts(t, f, n, n-1)
		is(t, f.Work(true), api.OK)
		counts(t, f, n, n)
	}
	for n := 99; n >= 0; n-- {
		is(t, f.Leave(), api.OK)
		counts(t, f, n, n+1)
		is(t, f.Work(false), api.OK)
		counts(t, f, n, n)
	}
}

func TestInsideChangesNothingInBusy(t *testing.T) {
	f := made(t, other())
	f.Enter()
	f.Enter()
	counts(t, f, 2, 0)
	is(t, f.Work(false), api.ErrNone)
	counts(t, f, 2, 0)
	is(t, f.Leave(), api.OK)
	is(t, f.Leave(), api.OK)
	counts(t, f, 0, 0)
	for range 3 {
		is(t, f.Work(true), api.OK)
	}
	counts(t, f, 0, 3)
	is(t, f.Leave(), api.ErrNone)
	counts(t, f, 0, 3)
}

// TestWhereNobodyIs: a refused Leave, and a refused end of work, owe nothing.
func TestWhereNobodyIs(t *testing.T) {
	f := made(t, other())
	for range 3 {
		is(t, f.Leave(), api.ErrNone)
		is(t, f.Work(false), api.ErrNone)
		counts(t, f, 0, 0)
	}
	f.Enter()
	is(t, f.Work(true), api.OK)
	counts(t, f, 1, 1)
	is(t, f.Leave(), api.OK)
	is(t, f.Leave(), api.ErrNone)
	counts(t, f, 0, 1)
	is(t, f.Work(false), api.OK)
	is(t, f.Work(false), api.ErrNone)
	counts(t, f, 0, 0)
}

// TestCountsHaveNoBoundOfTheConfig: how many clients and workers a config has plays no part.
func TestCountsHaveNoBoundOfTheConfig(t *testing.T) {
	f := made(t, least())
	for range 1000 {
		f.Enter()
		is(t, f.Work(true), api.OK)
		is(t, f.Work(true), api.OK)
	}
	counts(t, f, 1000, 2000)
}

func TestShut(t *testing.T) {
	f := made(t, other())
	closed(t, f, false)
	closed(t, f, false)
	shuts(t, f, true)
	for range 5 {
		shuts(t, f, false)
	}
}

// TestWhatIsClosedGoesOn: Shut says just that it is closed; all other things are as they were, and can be done.
func TestWhatIsClosedGoesOn(t *testing.T) {
	f := made(t, other())
	f.Enter()
	f.Work(true)
	turns(t, f, 1)
	f.Note(api.Event{Kind: 1})
	shuts(t, f, true)
	counts(t, f, 1, 1)
	isNow(t, f, 1)
	traced(t, f, api.Event{Kind: 1})
	f.Enter()
	is(t, f.Work(true), api.OK)
	counts(t, f, 2, 2)
	for range 2 {
		is(t, f.Leave(), api.OK)
		is(t, f.Work(false), api.OK)
	}
	turns(t, f, 2)
	f.Note(api.Event{Kind: 2})
	traced(t, f, api.Event{Kind: 1}, api.Event{Kind: 2})
	gives(t, f, 64)
	numbered(t, f, 0, 64)
	if spilled, err := f.Pipe().Put(api.Firing{}); spilled || err != api.OK {
		t.Errorf("the pipe is shut, too: %t, %d", spilled, err)
	}
	shuts(t, f, false)
}

// TestNothingElseCloses: neither the pipe's end nor anything else that is done to a floor closes it.
func TestNothingElseCloses(t *testing.T) {
	f := made(t, other())
	f.Pipe().Shut()
	f.Enter()
	f.Leave()
	f.Leave()
	f.Work(false)
	f.Turn()
	f.Note(api.Event{Kind: api.EvClose})
	closed(t, f, false)
	shuts(t, f, true)
}

func TestTurn(t *testing.T) {
	f := made(t, other())
	isNow(t, f, 0)
	for now := uint64(1); now <= 5000; now++ {
		turns(t, f, now)
	}
	// The shards' times, and what the trace tells, are others' to bring on.
	for i := range 3 {
		isNewShard(t, f.Shard(i))
	}
	traced(t, f)
	f.Shard(0).Turn()
	isNow(t, f, 5000)
}

func TestTurnAtTheEnd(t *testing.T) {
	for _, start := range []uint64{1<<31 - 2, 1<<32 - 2, 1<<63 - 2, top - 3} {
		f := from(t, start)
		turns(t, f, start+1)
		turns(t, f, start+2)
		turns(t, f, start+3)
	}
	f := from(t, top-1)
	turns(t, f, top)
	for range 3 {
		if now, err := f.Turn(); now != 0 || err != api.ErrOver {
			t.Errorf("Turn at the end: %d, %d", now, err)
		}
		isNow(t, f, top)
	}
	// All else has no time.
	f.Enter()
	counts(t, f, 1, 0)
	shuts(t, f, true)
}

// whole is an event of which no field is 0, and that no other number makes.
func whole(n int) api.Event {
	u := uint64(n)
	return api.Event{
		Kind: n + 1, Thread: n + 2, Call: n + 3, What: n + 4,
		Id: u + 5, Gen: u + 6, Deadline: u + 7, Period: u + 8, Tick: u + 9, Err: api.Errno(n + 10),
	}
}

func TestTraceBehindEachNote(t *testing.T) {
	f := made(t, other())
	traced(t, f)
	var want []api.Event
	for n := range 300 {
		// Each comes in no order of its own, and some of them again.
		e := whole(n * 7 % 100)
		f.Note(e)
		want = append(want, e)
		traced(t, f, want...)
	}
	traced(t, f, want...)
}

func TestAnyEventIsNoted(t *testing.T) {
	f := made(t, other())
	want := []api.Event{
		{},
		{Kind: math.MinInt, Thread: math.MinInt, Call: math.MinInt, What: math.MinInt, Err: math.MinInt},
		{Kind: math.MaxInt, Thread: math.MaxInt, Call: math.MaxInt, What: math.MaxInt, Err: math.MaxInt},
		{Id: top, Gen: top, Deadline: top, Period: top, Tick: top},
		{Kind: api.EvTick, Tick: 3},
		{Kind: api.EvTick, Tick: 3},
		{},
	}
	for _, e := range want {
		f.Note(e)
	}
	traced(t, f, want...)
	// An event is told, not done.
	f.Note(api.Event{Kind: api.EvTick, Tick: 9})
	isNow(t, f, 0)
}

func TestWhatTraceAnsweredIsTheCallers(t *testing.T) {
	f := made(t, other())
	var want []api.Event
	for n := range 20 {
		f.Note(whole(n))
		want = append(want, whole(n))
		first, second := f.Trace(), f.Trace()
		spoil(first)
		if !slices.Equal(second, want) {
			t.Fatalf("two answers share memory: %v", second)
		}
		traced(t, f, want...)
	}
	kept := f.Trace()
	spoil(f.Trace())
	f.Note(whole(20))
	traced(t, f, append(want, whole(20))...)
	// What was answered doesn't grow, nor does what is put behind it come into the floor.
	if !slices.Equal(kept, want) {
		t.Errorf("an answer became %v", kept)
	}
	kept = append(kept, whole(99))
	f.Note(whole(21))
	if kept[20] != whole(99) {
		t.Errorf("a note went into an answer's spare room: %v", kept[20])
	}
	traced(t, f, append(want, whole(20), whole(21))...)
}

// spoil writes over a list, and over its spare room.
func spoil(l []api.Event) {
	l = l[:cap(l)]
	for i := range l {
		l[i] = whole(1000)
	}
}

// P14.3

func TestNumberOfNone(t *testing.T) {
	for n := 1; n <= 64; n++ {
		c := other()
		c.Cap = n
		f := made(t, c)
		for slot := range n {
			unnumbered(t, f, slot, api.ErrNone)
		}
		for _, slot := range []int{math.MinInt, math.MinInt + 1, -64, -2, -1, n, n + 1, 64, 65, 128, 1 << 32, math.MaxInt} {
			unnumbered(t, f, slot, api.ErrRange)
		}
	}
}

func TestNumberOfEachSlotOnce(t *testing.T) {
	f := made(t, greatest())
	for slot := range 64 {
		unnumbered(t, f, slot, api.ErrNone)
		gives(t, f, uint64(64+slot))
		for s := range 64 {
			if s <= slot {
				numbered(t, f, s, uint64(64+s))
			} else {
				unnumbered(t, f, s, api.ErrNone)
			}
		}
	}
	unnumbered(t, f, 64, api.ErrRange)
	unnumbered(t, f, -1, api.ErrRange)
}

func TestNumberOfASlotManyTimes(t *testing.T) {
	f := made(t, least())
	for times := uint64(1); times <= 5000; times++ {
		gives(t, f, times*64)
		numbered(t, f, 0, times*64)
		frees(t, f, 0)
		// It is the greatest one that was given, whoever has it by now.
		numbered(t, f, 0, times*64)
	}
}

// TestNumberOfOneAmongOthers gives one slot again and again, while the others are given once, or never.
func TestNumberOfOneAmongOthers(t *testing.T) {
	for _, slot := range []int{0, 1, 31, 32, 62} {
		f := made(t, greatest())
		for s := range slot + 1 {
			gives(t, f, uint64(64+s))
		}
		for times := uint64(2); times <= 70; times++ {
			frees(t, f, slot)
			gives(t, f, times*64+uint64(slot))
			numbered(t, f, slot, times*64+uint64(slot))
		}
		for s := range slot {
			numbered(t, f, s, uint64(64+s))
		}
		unnumbered(t, f, slot+1, api.ErrNone)
	}
}

// TestNumberStepByStep: a slot has a number just when a request holds its record, not ahead of that.
func TestNumberStepByStep(t *testing.T) {
	f := made(t, other())
	r := f.Slab().Begin(3)
	unnumbered(t, f, 0, api.ErrNone)
	for range 2 {
		r.Step()
		unnumbered(t, f, 0, api.ErrNone)
	}
	r.Step()
	numbered(t, f, 0, 64)
	unnumbered(t, f, 1, api.ErrNone)
}

// TestNumberHangsOnWhatWasGivenAlone: the state and the generation of a record play no part.
func TestNumberHangsOnWhatWasGivenAlone(t *testing.T) {
	f := made(t, other())
	// The word of a record that was never given can be changed by hand; that gives nothing.
	happens(t, f, 0, word.Alloc)
	unnumbered(t, f, 0, api.ErrNone)
	gives(t, f, 65)
	happens(t, f, 1, word.Submit)
	for range 100 {
		happens(t, f, 1, word.Reset)
		numbered(t, f, 1, 65)
	}
	happens(t, f, 1, word.Enter, word.Claim)
	numbered(t, f, 1, 65)
	happens(t, f, 1, word.Finish, word.Release)
	numbered(t, f, 1, 65)
	is(t, f.Slab().Drop(), api.OK)
	numbered(t, f, 1, 65)
	gives(t, f, 129)
	numbered(t, f, 1, 129)
	unnumbered(t, f, 0, api.ErrNone)
}

func TestANilFloor(t *testing.T) {
	var f *floor.Floor
	for range 2 {
		if c := f.Config(); c != (api.Config{}) {
			t.Errorf("Config: %v", c)
		}
		if f.Slab() != nil || f.Pipe() != nil || f.Log() != nil {
			t.Errorf("Slab, Pipe, Log: %p, %p, %p", f.Slab(), f.Pipe(), f.Log())
		}
		for _, i := range []int{math.MinInt, -1, 0, 1, 2, 3, 4, 64, math.MaxInt} {
			if f.Shard(i) != nil || f.Home(i) != nil {
				t.Errorf("Shard, Home of %d: %p, %p", i, f.Shard(i), f.Home(i))
			}
			unnumbered(t, f, i, api.ErrNone)
		}
		f.Enter()
		counts(t, f, 0, 0)
		is(t, f.Leave(), api.ErrNone)
		is(t, f.Work(true), api.ErrNone)
		counts(t, f, 0, 0)
		is(t, f.Work(false), api.ErrNone)
		if f.Shut() {
			t.Error("Shut: true")
		}
		closed(t, f, false)
		if now, err := f.Turn(); now != 0 || err != api.ErrNone {
			t.Errorf("Turn: %d, %d", now, err)
		}
		isNow(t, f, 0)
		f.Note(api.Event{Kind: 1})
		traced(t, f)
	}
}

// P14.4

// TestOneShutCloses: whatever else is done between, just one Shut says that it closed the floor, and from that on it is.
func TestOneShutCloses(t *testing.T) {
	for seed := range 50 {
		d := dice(seed)
		b := newBench(t, other())
		said := 0
		for range 200 {
			b.call(d.below(calls - 1))
			if d.below(20) == 0 {
				if b.f.Shut() {
					said++
				}
				b.closed = true
			}
			closed(t, b.f, said == 1)
		}
		b.check()
		if said != 1 {
			t.Errorf("row %d: %d of its Shuts closed the floor", seed, said)
		}
	}
}

func TestWhichSlotsHaveOneHome(t *testing.T) {
	for n := 1; n <= 4; n++ {
		c := greatest()
		c.Shards = n
		f := made(t, c)
		lived := make([]int, n)
		for a := range 64 {
			for b := range 64 {
				if one, want := f.Home(a) == f.Home(b), (a-b)%n == 0; one != want {
					t.Errorf("%d shards: have %d and %d one home: %t, want %t", n, a, b, one, want)
				}
			}
			for i := range n {
				if f.Home(a) == f.Shard(i) {
					lived[i]++
				}
			}
		}
		// Each shard is home to as many slots as any other one, or to one less.
		if slices.Max(lived)-slices.Min(lived) > 1 || slices.Min(lived) < 64/n {
			t.Errorf("%d shards: homes of %v slots", n, lived)
		}
	}
}
