package wheel_test

import (
	"slices"
	"testing"

	"verge/api"
	"verge/wheel"
)

const (
	levels = 4
	slots  = 64
	top    = uint64(1<<64 - 1)
	far    = uint64(1 << 24) // 64^4: what one turn of all four levels covers
)

// spans are how many ticks a slot of each level covers, and one more than that: all levels together.
var spans = [levels + 1]uint64{1, 64, 64 * 64, 64 * 64 * 64, far}

// item is an entry, and what it was inserted with.
type item[T any] struct {
	deadline uint64
	value    T
	entry    *wheel.Entry[T]
}

// bench is a wheel, and what must be in it behind the same calls: the entries that were neither removed nor due,
// in the order in which they were inserted. By the document's words each row of the wheel keeps that order, and
// where an entry stands hangs on its deadline and on now alone: so nothing has to come down in this model.
type bench[T comparable] struct {
	t     *testing.T
	w     *wheel.Wheel[T]
	now   uint64
	items []item[T]
}

func newBench[T comparable](t *testing.T, now uint64) *bench[T] {
	t.Helper()
	w := wheel.New[T](now)
	if w == nil {
		t.Fatalf("New(%d): nil", now)
	}
	return &bench[T]{t: t, w: w, now: now}
}

// spot is where a deadline stands, by division: at the lowest level whose next higher digits are all now's.
func spot(deadline, now uint64) (level, slot int) {
	for level := range levels {
		if deadline/spans[level+1] == now/spans[level+1] {
			return level, int(deadline / spans[level] % slots)
		}
	}
	return levels, 0
}

// insert inserts an entry, whose deadline must be taken just if it lies ahead.
func (b *bench[T]) insert(deadline uint64, v T) *wheel.Entry[T] {
	b.t.Helper()
	e, err := b.w.Insert(deadline, v)
	if deadline <= b.now {
		if e != nil || err != api.ErrInvalid {
			b.t.Errorf("Insert(%d) at %d: %v, %d, want nil, %d", deadline, b.now, e, err, api.ErrInvalid)
		}
		return nil
	}
	if e == nil || err != api.OK {
		b.t.Fatalf("Insert(%d) at %d: %v, %d", deadline, b.now, e, err)
	}
	if e.Deadline != deadline || e.Value != v {
		b.t.Errorf("Insert(%d, %v): an entry with %d, %v", deadline, v, e.Deadline, e.Value)
	}
	b.items = append(b.items, item[T]{deadline, v, e})
	return e
}

// remove takes an entry out, which must answer OK just if it is there.
func (b *bench[T]) remove(e *wheel.Entry[T]) {
	b.t.Helper()
	want, at := api.ErrNone, slices.IndexFunc(b.items, func(i item[T]) bool { return i.entry == e })
	switch {
	case e == nil:
		want = api.ErrInvalid
	case at >= 0:
		want = api.OK
		b.items = slices.Delete(b.items, at, at+1)
	}
	if err := b.w.Remove(e); err != want {
		b.t.Errorf("Remove at %d: %d, want %d", b.now, err, want)
	}
}

// advance goes on by one: just those must be due whose deadline it is, in the order in which they were inserted.
func (b *bench[T]) advance() []*wheel.Entry[T] {
	b.t.Helper()
	got, err := b.w.Advance()
	if b.now == top {
		if len(got) != 0 || err != api.ErrOver {
			b.t.Errorf("Advance at the end: %v, %d", got, err)
		}
		return nil
	}
	b.now++
	var want []*wheel.Entry[T]
	b.items = slices.DeleteFunc(b.items, func(i item[T]) bool {
		if i.deadline == b.now {
			want = append(want, i.entry)
		}
		return i.deadline == b.now
	})
	if err != api.OK || !slices.Equal(got, want) {
		b.t.Errorf("Advance to %d: %v, %d, want %v", b.now, got, err, want)
	}
	return got
}

// until advances up to a time.
func (b *bench[T]) until(now uint64) {
	b.t.Helper()
	for b.now < now {
		b.advance()
	}
}

// check asks the wheel for all that it tells of itself, and holds it against what must be there.
func (b *bench[T]) check() {
	b.t.Helper()
	var at [levels + 1][slots][]T
	for _, i := range b.items {
		level, slot := spot(i.deadline, b.now)
		at[level][slot] = append(at[level][slot], i.value)
	}
	for level := range levels {
		for slot := range slots {
			if got := b.w.At(level, slot); !slices.Equal(got, at[level][slot]) {
				b.t.Errorf("At(%d, %d) at %d: %v, want %v", level, slot, b.now, got, at[level][slot])
			}
		}
	}
	if got := b.w.Beyond(); !slices.Equal(got, at[levels][0]) {
		b.t.Errorf("Beyond at %d: %v, want %v", b.now, got, at[levels][0])
	}
	b.brief()
}

// brief asks only for what is told without its rows.
func (b *bench[T]) brief() {
	b.t.Helper()
	if got := b.w.Now(); got != b.now {
		b.t.Errorf("Now: %d, want %d", got, b.now)
	}
	if got := b.w.Len(); got != len(b.items) {
		b.t.Errorf("Len at %d: %d, want %d", b.now, got, len(b.items))
	}
	want, wantErr := uint64(0), api.ErrNone
	for _, i := range b.items {
		if wantErr == api.ErrNone || i.deadline < want {
			want, wantErr = i.deadline, api.OK
		}
	}
	if got, err := b.w.Next(); got != want || err != wantErr {
		b.t.Errorf("Next at %d: %d, %d, want %d, %d", b.now, got, err, want, wantErr)
	}
}

// starts are times from which a few ticks lead over the turn of digits: none, one, two, three, four, all.
func starts() []uint64 {
	return []uint64{
		0, 1, 62, 4096 - 3, 64*64*64 - 2, far - 3, 5*far - 1, 1<<60 - 2, 12345678901234567890,
		far + 64*64*64 - 1, top - far - 1, top - 200, top - 1, top,
	}
}

// ahead are how far deadlines lie ahead: round each level's span, and beyond.
var ahead = []uint64{
	0, 1, 2, 3, 5, 62, 63, 64, 65, 66, 70, 127, 128, 4095, 4096, 4097, 4160,
	64*64*64 - 1, 64 * 64 * 64, 64*64*64 + 1, far - 1, far, far + 1, 2 * far, 1 << 40, 1 << 63,
}

// later is a deadline that lies so far ahead, or the greatest one.
func later(now, by uint64) uint64 {
	if by > top-now {
		return top
	}
	return now + by
}

func TestEveryShortRowOfCalls(t *testing.T) {
	// Of a wheel with two entries, a tick ahead of the turn of three digits: every row of four calls.
	const start = 64*64*64 - 1
	by := []uint64{0, 1, 2, 65, 4097, 64 * 64 * 64, far}
	calls := len(by) + 5
	for number := range calls * calls * calls * calls {
		b := newBench[int](t, start)
		kept := []*wheel.Entry[int]{b.insert(start+1, -1), b.insert(start+66, -2), nil}
		rest := number
		for i := range 4 {
			switch k := rest % calls; {
			case k < len(by):
				if e := b.insert(b.now+by[k], i); e != nil {
					kept = append(kept, e)
				}
			case k < len(by)+3:
				b.remove(kept[k-len(by)])
			case k == len(by)+3:
				b.remove(kept[len(kept)-1])
			default:
				b.advance()
			}
			b.brief()
			rest /= calls
		}
		b.check()
		if t.Failed() {
			t.Fatalf("row %d", number)
		}
	}
}

func TestLongRowsOfCalls(t *testing.T) {
	for seed, start := range starts() {
		b := newBench[int](t, start)
		var kept []*wheel.Entry[int]
		x := uint64(seed)
		draw := func(n int) int {
			x = x*6364136223846793005 + 1442695040888963407
			return int(x>>33) % n
		}
		for i := range 2000 {
			switch k := draw(8); {
			case k < 4:
				kept = append(kept, b.insert(later(b.now, ahead[draw(len(ahead))]+uint64(draw(3))), i))
			case k == 4 && len(kept) > 0:
				b.remove(kept[draw(len(kept))])
			default:
				b.advance()
			}
			b.check()
			if t.Failed() {
				t.Fatalf("from %d on, call %d", start, i)
			}
		}
	}
}
