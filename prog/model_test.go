package prog_test

import (
	"testing"

	"verge/prog"
)

// mark is what a program does in the model: a step, which may wait for a gate, or the asking of a rest.
type mark struct {
	number int
	wait   *gate
	asked  bool
}

// bench makes stages at random, and tells what they must do, in order.
type bench struct {
	t       *testing.T
	d       dice
	done    []int
	numbers int
}

// next is a number that nothing else has.
func (b *bench) next() int {
	b.numbers++
	return b.numbers
}

// put is a function that puts a number behind all that was done.
func (b *bench) put(number int) func() {
	return func() { b.done = append(b.done, number) }
}

// stage is a stage made out of at most so many others, and what it must do.
func (b *bench) stage(deep int) (func() prog.Stage, []mark) {
	kinds := 5
	if deep == 0 {
		kinds = 3
	}
	switch b.d.below(kinds) {
	case 0:
		return func() prog.Stage { return prog.Stage{} }, nil
	case 1:
		return b.row()
	case 2:
		return b.until(deep)
	default:
		return b.then(deep)
	}
}

// row is a row of some functions, and of nil ones among them.
func (b *bench) row() (func() prog.Stage, []mark) {
	var l []func()
	var marks []mark
	for range b.d.below(5) {
		if b.d.below(4) == 0 {
			l = append(l, nil)
			continue
		}
		m := mark{number: b.next()}
		l = append(l, b.put(m.number))
		marks = append(marks, m)
	}
	return func() prog.Stage { return prog.Row(l...) }, marks
}

// until is a stage that waits, or not, and leads to another one.
func (b *bench) until(deep int) (func() prog.Stage, []mark) {
	m := mark{number: b.next()}
	var may func() bool
	if b.d.below(3) > 0 {
		m.wait = &gate{}
		may = m.wait.may
	}
	behind, marks := func() prog.Stage { return prog.Stage{} }, []mark(nil)
	if deep > 0 {
		behind, marks = b.stage(deep - 1)
	}
	return func() prog.Stage {
		return prog.Until(may, func() prog.Stage {
			b.put(m.number)()
			return behind()
		})
	}, append([]mark{m}, marks...)
}

// then is a stage behind another one; that the rest is asked is put down, too.
func (b *bench) then(deep int) (func() prog.Stage, []mark) {
	first, ahead := b.stage(deep - 1)
	m := mark{number: b.next(), asked: true}
	rest, behind := b.stage(deep - 1)
	return func() prog.Stage {
		return prog.Then(first(), func() prog.Stage {
			b.put(m.number)()
			return rest()
		})
	}, append(append(ahead, m), behind...)
}

// same holds what was done against what must be, up to a mark.
func (b *bench) same(marks []mark) {
	b.t.Helper()
	if len(b.done) != len(marks) {
		b.t.Fatalf("done: %v, want %d marks", b.done, len(marks))
	}
	for i, m := range marks {
		if b.done[i] != m.number {
			b.t.Fatalf("done: %v, want %d at %d", b.done, m.number, i)
		}
	}
}

// behindAsked is the first place from i on where no rest is asked.
func behindAsked(marks []mark, i int) int {
	for i < len(marks) && marks[i].asked {
		i++
	}
	return i
}

// run goes through a program from its beginning to its end; what waits is let go on by and by.
func (b *bench) run(p *prog.Prog, marks []mark) {
	b.t.Helper()
	steps := 0
	i := behindAsked(marks, 0)
	for b.same(marks[:i]); i < len(marks); b.same(marks[:i]) {
		if g := marks[i].wait; g != nil {
			waits(b.t, p, steps)
			g.open = true
		}
		may(b.t, p, steps)
		b.same(marks[:i])
		goes(b.t, p)
		if g := marks[i].wait; g != nil {
			g.open = false
		}
		steps++
		i = behindAsked(marks, i+1)
	}
	ended(b.t, p, steps)
	b.same(marks)
}

// dice is a row of numbers that is the same one in every run.
type dice uint64

func (d *dice) below(n int) int {
	*d = *d*6364136223846793005 + 1442695040888963407
	return int(uint64(*d) >> 33 % uint64(n))
}

// Stages made of each other at random do what the model says, step by step.
func TestStagesOfStages(t *testing.T) {
	for seed := range 3000 {
		b := &bench{t: t, d: dice(seed)}
		first, marks := b.stage(seed % 6)
		b.run(made(t, first()), marks)
	}
}
