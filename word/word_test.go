package word_test

import (
	"math"
	"slices"
	"testing"

	"verge/api"
	"verge/word"
)

var (
	states = []api.State{api.Free, api.Pending, api.Queued, api.InWheel, api.Claimed, api.Cancelled, api.Done}
	gens   = []uint64{0, 1, 2, 5, 255, 256, 1 << 16, 1 << 31, api.MaxGen - 1, api.MaxGen}
	events = []int{word.Alloc, word.Submit, word.Enter, word.Claim, word.Rearm, word.Cancel, word.Stop, word.Reset, word.Finish, word.Release}
	bools  = []bool{false, true}

	wrongStates = []api.State{-1, -7, -8, math.MinInt, 7, 8, 15, 256, 1 << 32, 1<<32 + 1, math.MaxInt}
	wrongGens   = []uint64{api.MaxGen + 1, api.MaxGen + 2, 1 << 33, 1 << 56, 1<<56 + 1, 1 << 63, math.MaxUint64}
	wrongEvents = []int{0, -1, -10, math.MinInt, 11, 12, 1 << 32, 1<<32 + word.Alloc, math.MaxInt}
)

// bits is a word made in another way than by Pack, from the chapter's places of bits.
func bits(state api.State, gen uint64, last bool) word.Word {
	n := uint64(state) + 256*gen
	if last {
		n += 8
	}
	return word.Word(n)
}

// eachWord are words that may be: every state, the last or not, with the generations at the edges.
func eachWord() []word.Word {
	var l []word.Word
	for _, s := range states {
		for _, g := range gens {
			for _, last := range bools {
				l = append(l, bits(s, g, last))
			}
		}
	}
	return l
}

// wrongWords are words that may not be: of the state 7, or with a bit that is to be 0.
func wrongWords() []word.Word {
	l := []word.Word{math.MaxUint64}
	for _, w := range eachWord() {
		l = append(l, w|7)
		for _, bit := range []int{4, 5, 6, 7, 40, 41, 50, 62, 63} {
			l = append(l, w|1<<bit)
		}
	}
	return l
}

// row is a line of the chapter's table.
type row struct {
	event    int
	from     []api.State
	again    bool // just of one that is periodic, and not the last
	to       api.State
	more     uint64
	set, not bool // is it the last behind that, or not the last? (neither: as it is)
}

func rows() []row {
	one := func(s ...api.State) []api.State { return s }
	return []row{
		{event: word.Alloc, from: one(api.Free), to: api.Pending, more: 1, not: true},
		{event: word.Submit, from: one(api.Pending), to: api.Queued},
		{event: word.Enter, from: one(api.Queued), to: api.InWheel},
		{event: word.Claim, from: one(api.InWheel), to: api.Claimed},
		{event: word.Rearm, from: one(api.Claimed), again: true, to: api.InWheel, more: 1},
		{event: word.Cancel, from: one(api.Queued, api.InWheel), to: api.Cancelled},
		{event: word.Cancel, from: one(api.Claimed), again: true, to: api.Cancelled, more: 1},
		{event: word.Stop, from: one(api.Queued), again: true, to: api.Queued, set: true},
		{event: word.Stop, from: one(api.InWheel), again: true, to: api.InWheel, set: true},
		{event: word.Stop, from: one(api.Claimed), again: true, to: api.Claimed, set: true},
		{event: word.Reset, from: one(api.Queued, api.InWheel), to: api.Queued, more: 1},
		{event: word.Reset, from: one(api.Claimed), again: true, to: api.Queued, more: 1},
		{event: word.Finish, from: one(api.Pending), to: api.Free},
		{event: word.Finish, from: one(api.Claimed), to: api.Done},
		{event: word.Release, from: one(api.Cancelled, api.Done), to: api.Free, not: true},
	}
}

// byTable is what the table says of an event, for a word of these.
func byTable(state api.State, gen uint64, last bool, event int, periodic bool) (word.Word, api.Errno) {
	for _, r := range rows() {
		for _, from := range r.from {
			if r.event != event || from != state || r.again && (!periodic || last) {
				continue
			}
			if gen+r.more > api.MaxGen {
				return bits(state, gen, last), api.ErrOver
			}
			return bits(r.to, gen+r.more, (last || r.set) && !r.not), api.OK
		}
	}
	return bits(state, gen, last), api.ErrState
}

// P2.1

func TestEventNumbers(t *testing.T) {
	for i, e := range events {
		if e != i+1 {
			t.Errorf("the event %d has the number %d", i+1, e)
		}
	}
}

func TestPack(t *testing.T) {
	for _, q := range []struct {
		state api.State
		gen   uint64
		last  bool
		want  word.Word
	}{
		{api.Free, 0, false, 0}, {api.Free, 0, true, 8}, {api.Pending, 1, false, 257},
		{api.Queued, 1, true, 266}, {api.InWheel, 5, false, 5<<8 + 3}, {api.Claimed, 256, true, 1<<16 + 12},
		{api.Cancelled, 1 << 31, false, 1<<39 + 5}, {api.Done, api.MaxGen, false, 1<<40 - 256 + 6},
		{api.Done, api.MaxGen, true, 1<<40 - 256 + 14},
	} {
		if w, err := word.Pack(q.state, q.gen, q.last); w != q.want || err != api.OK {
			t.Errorf("Pack(%d, %d, %t): %d, %d, want %d, 0", q.state, q.gen, q.last, w, err, q.want)
		}
	}
}

func TestPackAndTheParts(t *testing.T) {
	for _, s := range states {
		for _, g := range gens {
			for _, last := range bools {
				w, err := word.Pack(s, g, last)
				if w != bits(s, g, last) || err != api.OK || !word.Ok(w) {
					t.Errorf("Pack(%d, %d, %t): %d, %d", s, g, last, w, err)
				}
				if w.State() != s || w.Gen() != g || w.Last() != last {
					t.Errorf("the parts of Pack(%d, %d, %t): %d, %d, %t", s, g, last, w.State(), w.Gen(), w.Last())
				}
			}
		}
	}
}

func TestPackOutOfRange(t *testing.T) {
	refused := func(s api.State, g uint64, last bool) {
		t.Helper()
		if w, err := word.Pack(s, g, last); w != 0 || err != api.ErrRange {
			t.Errorf("Pack(%d, %d, %t): %d, %d, want 0, %d", s, g, last, w, err, api.ErrRange)
		}
	}
	for _, last := range bools {
		for _, s := range wrongStates {
			for _, g := range gens {
				refused(s, g, last)
			}
			for _, g := range wrongGens {
				refused(s, g, last)
			}
		}
		for _, s := range states {
			for _, g := range wrongGens {
				refused(s, g, last)
			}
		}
	}
}

func TestOk(t *testing.T) {
	for _, w := range eachWord() {
		if !word.Ok(w) {
			t.Errorf("Ok(%#x): false", w)
		}
	}
	for _, w := range wrongWords() {
		if word.Ok(w) {
			t.Errorf("Ok(%#x): true", w)
		}
	}
}

func TestOkByBits(t *testing.T) {
	for bit := range 64 {
		want := bit <= 3 || bit >= 8 && bit <= 39
		if got := word.Ok(word.Word(1) << bit); got != want {
			t.Errorf("Ok of the bit %d alone: %t, want %t", bit, got, want)
		}
	}
	for low := range word.Word(1 << 12) {
		want := low&7 != 7 && low&0xF0 == 0
		if got := word.Ok(low); got != want {
			t.Errorf("Ok(%#x): %t, want %t", low, got, want)
		}
	}
}

func TestPartsOfWordsThatMayNotBe(t *testing.T) {
	for _, w := range wrongWords() {
		if w.State() != 0 || w.Gen() != 0 || w.Last() {
			t.Errorf("the parts of %#x: %d, %d, %t, want zeros", w, w.State(), w.Gen(), w.Last())
		}
	}
}

// P2.2

func TestNextByTheTable(t *testing.T) {
	for _, s := range states {
		for _, g := range gens {
			for _, last := range bools {
				for _, event := range events {
					for _, periodic := range bools {
						want, wantErr := byTable(s, g, last, event, periodic)
						got, err := word.Next(bits(s, g, last), event, periodic)
						if got != want || err != wantErr {
							t.Errorf("Next(%d %d %t, %d, %t): %#x, %d, want %#x, %d", s, g, last, event, periodic, got, err, want, wantErr)
						}
					}
				}
			}
		}
	}
}

func TestNextOfTheExamples(t *testing.T) {
	w := bits(api.InWheel, 5, false)
	w, err := word.Next(w, word.Claim, true)
	if w != bits(api.Claimed, 5, false) || err != api.OK {
		t.Errorf("Claim: %#x, %d", w, err)
	}
	if x, err := word.Next(w, word.Rearm, true); x != bits(api.InWheel, 6, false) || err != api.OK {
		t.Errorf("Rearm of a periodic one: %#x, %d", x, err)
	}
	if x, err := word.Next(w, word.Rearm, false); x != w || err != api.ErrState {
		t.Errorf("Rearm of another one: %#x, %d", x, err)
	}
}

// What no row names stays: above all, whether it is the last.
func TestNextLeavesTheRest(t *testing.T) {
	for _, q := range []struct {
		from  api.State
		event int
		to    api.State
		more  uint64
	}{
		{api.Pending, word.Submit, api.Queued, 0},
		{api.Queued, word.Enter, api.InWheel, 0},
		{api.InWheel, word.Claim, api.Claimed, 0},
		{api.Queued, word.Cancel, api.Cancelled, 0},
		{api.InWheel, word.Cancel, api.Cancelled, 0},
		{api.Queued, word.Reset, api.Queued, 1},
		{api.InWheel, word.Reset, api.Queued, 1},
		{api.Pending, word.Finish, api.Free, 0},
		{api.Claimed, word.Finish, api.Done, 0},
	} {
		for _, last := range bools {
			for _, periodic := range bools {
				got, err := word.Next(bits(q.from, 9, last), q.event, periodic)
				if want := bits(q.to, 9+q.more, last); got != want || err != api.OK {
					t.Errorf("Next(%d 9 %t, %d, %t): %#x, %d, want %#x, 0", q.from, last, q.event, periodic, got, err, want)
				}
			}
		}
	}
}

func TestNextAtTheLastGeneration(t *testing.T) {
	for _, q := range []struct {
		from  api.State
		event int
		to    api.State
	}{
		{api.Free, word.Alloc, api.Pending},
		{api.Claimed, word.Rearm, api.InWheel},
		{api.Claimed, word.Cancel, api.Cancelled},
		{api.Queued, word.Reset, api.Queued},
		{api.InWheel, word.Reset, api.Queued},
		{api.Claimed, word.Reset, api.Queued},
	} {
		w := bits(q.from, api.MaxGen-1, false)
		if got, err := word.Next(w, q.event, true); got != bits(q.to, api.MaxGen, false) || err != api.OK {
			t.Errorf("the event %d below MaxGen in the state %d: %#x, %d", q.event, q.from, got, err)
		}
		w = bits(q.from, api.MaxGen, false)
		if got, err := word.Next(w, q.event, true); got != w || err != api.ErrOver {
			t.Errorf("the event %d at MaxGen in the state %d: %#x, %d", q.event, q.from, got, err)
		}
	}
	// Cancel of what isn't claimed leaves the generation as it is, so that it has room.
	for _, s := range []api.State{api.Queued, api.InWheel} {
		got, err := word.Next(bits(s, api.MaxGen, false), word.Cancel, true)
		if got != bits(api.Cancelled, api.MaxGen, false) || err != api.OK {
			t.Errorf("Cancel at MaxGen in the state %d: %#x, %d", s, got, err)
		}
	}
}

func TestNextOfAWrongWord(t *testing.T) {
	for _, w := range wrongWords() {
		for _, event := range slices.Concat(events, wrongEvents) {
			for _, periodic := range bools {
				if got, err := word.Next(w, event, periodic); got != w || err != api.ErrForm {
					t.Errorf("Next(%#x, %d, %t): %#x, %d, want the word, %d", w, event, periodic, got, err, api.ErrForm)
				}
			}
		}
	}
}

func TestNextOfAWrongEvent(t *testing.T) {
	for _, w := range eachWord() {
		for _, event := range wrongEvents {
			for _, periodic := range bools {
				if got, err := word.Next(w, event, periodic); got != w || err != api.ErrInvalid {
					t.Errorf("Next(%#x, %d, %t): %#x, %d, want the word, %d", w, event, periodic, got, err, api.ErrInvalid)
				}
			}
		}
	}
}

// Each of these has an error that the chapter names later, too.
func TestNextTellsTheFirstError(t *testing.T) {
	for _, q := range []struct {
		why      string
		w        word.Word
		event    int
		periodic bool
		err      api.Errno
	}{
		{"the word ahead of the event", 7, 0, true, api.ErrForm},
		{"the word ahead of the state", 1 << 40, word.Submit, true, api.ErrForm},
		{"the word ahead of the generation", bits(api.Free, api.MaxGen, false) | 16, word.Alloc, true, api.ErrForm},
		{"the event ahead of the generation", bits(api.Free, api.MaxGen, false), 11, true, api.ErrInvalid},
		{"the state ahead of the generation: Alloc", bits(api.Done, api.MaxGen, false), word.Alloc, true, api.ErrState},
		{"the state ahead of the generation: Rearm", bits(api.Claimed, api.MaxGen, false), word.Rearm, false, api.ErrState},
		{"the state ahead of the generation: Cancel", bits(api.Claimed, api.MaxGen, true), word.Cancel, true, api.ErrState},
		{"the state ahead of the generation: Reset", bits(api.Claimed, api.MaxGen, true), word.Reset, true, api.ErrState},
	} {
		if got, err := word.Next(q.w, q.event, q.periodic); got != q.w || err != q.err {
			t.Errorf("%s: %#x, %d, want the word, %d", q.why, got, err, q.err)
		}
	}
}

// P2.3

func TestGenerationsNeverGoBack(t *testing.T) {
	for _, w := range eachWord() {
		for _, event := range events {
			for _, periodic := range bools {
				x, err := word.Next(w, event, periodic)
				if !word.Ok(x) || x.Gen() < w.Gen() || x.Gen() > w.Gen()+1 {
					t.Errorf("Next(%#x, %d, %t): %#x, %d", w, event, periodic, x, err)
				}
			}
		}
	}
}

func TestWhatIsGoneComesBackByReleaseAndAlloc(t *testing.T) {
	for _, s := range []api.State{api.Cancelled, api.Done} {
		for _, last := range bools {
			for _, periodic := range bools {
				gone := bits(s, 4, last)
				free := onlyBy(t, gone, word.Release, periodic)
				if free != bits(api.Free, 4, false) {
					t.Errorf("Release of %#x: %#x", gone, free)
				}
				back := onlyBy(t, free, word.Alloc, periodic)
				if back != bits(api.Pending, 5, false) {
					t.Errorf("Alloc behind Release of %#x: %#x", gone, back)
				}
			}
		}
	}
}

// onlyBy is the word behind the one event that may happen.
func onlyBy(t *testing.T, w word.Word, only int, periodic bool) word.Word {
	t.Helper()
	for _, event := range events {
		if x, err := word.Next(w, event, periodic); event != only && (x != w || err != api.ErrState) {
			t.Errorf("Next(%#x, %d, %t): %#x, %d, want the word, %d", w, event, periodic, x, err, api.ErrState)
		}
	}
	x, err := word.Next(w, only, periodic)
	if err != api.OK {
		t.Errorf("Next(%#x, %d, %t): %d", w, only, periodic, err)
	}
	return x
}

// From a zero word on, whatever happens: a generation that was cancelled or done with is never live again.
func TestNoGenerationLivesTwice(t *testing.T) {
	type spot struct {
		w    word.Word
		gone uint64 // the greatest generation that was cancelled or done with
	}
	const deep = 5
	seen := map[spot]bool{}
	work := []spot{{}}
	for len(work) > 0 {
		s := work[0]
		work = work[1:]
		if seen[s] || s.w.Gen() > deep {
			continue
		}
		seen[s] = true
		for _, event := range events {
			for _, periodic := range bools {
				x, err := word.Next(s.w, event, periodic)
				if err != api.OK {
					continue
				}
				n := spot{x, s.gone}
				switch st := x.State(); {
				case st == api.Cancelled || st == api.Done:
					n.gone = x.Gen()
				case st != api.Free && x.Gen() <= s.gone:
					t.Errorf("%#x comes behind the generation %d was gone", x, s.gone)
				}
				work = append(work, n)
			}
		}
	}
	if len(seen) < 50 {
		t.Errorf("just %d words were come to", len(seen))
	}
}
