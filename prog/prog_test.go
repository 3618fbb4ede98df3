package prog_test

import (
	"slices"
	"testing"

	"verge/prog"
)

// diary is what was done and asked, in order.
type diary struct{ l []string }

// put is a function that puts a word into the diary.
func (d *diary) put(word string) func() {
	return func() { d.l = append(d.l, word) }
}

// step is a Do that puts a word into the diary and leads to the end.
func (d *diary) step(word string) func() prog.Stage {
	return func() prog.Stage {
		d.put(word)()
		return prog.Stage{}
	}
}

// holds is whether just these words are in the diary.
func (d *diary) holds(t *testing.T, words ...string) {
	t.Helper()
	if !slices.Equal(d.l, words) {
		t.Fatalf("done: %q, want %q", d.l, words)
	}
}

// gate is a May that says what open says, and counts how often it is asked.
type gate struct {
	open  bool
	asked int
}

func (g *gate) may() bool {
	g.asked++
	return g.open
}

// is holds what a program tells against what it must, twice: to ask changes nothing.
func is(t *testing.T, p *prog.Prog, may, done bool, steps int) {
	t.Helper()
	for range 2 {
		if got := p.May(); got != may {
			t.Fatalf("May: %t, want %t", got, may)
		}
		if got := p.Done(); got != done {
			t.Fatalf("Done: %t, want %t", got, done)
		}
		if got := p.Steps(); got != steps {
			t.Fatalf("Steps: %d, want %d", got, steps)
		}
	}
}

// may, waits and ended are what a program may tell behind so many steps.
func may(t *testing.T, p *prog.Prog, steps int) {
	t.Helper()
	is(t, p, true, false, steps)
}

func waits(t *testing.T, p *prog.Prog, steps int) {
	t.Helper()
	is(t, p, false, false, steps)
	if p.Step() {
		t.Fatal("a step that may not be made is made")
	}
	is(t, p, false, false, steps)
}

func ended(t *testing.T, p *prog.Prog, steps int) {
	t.Helper()
	is(t, p, false, true, steps)
	for range 3 {
		if p.Step() {
			t.Fatal("a step is made at the end")
		}
	}
	is(t, p, false, true, steps)
}

// goes makes a step that may be made.
func goes(t *testing.T, p *prog.Prog) {
	t.Helper()
	if !p.Step() {
		t.Fatal("a step that may be made isn't made")
	}
}

// made is a program that New must make.
func made(t *testing.T, first prog.Stage) *prog.Prog {
	t.Helper()
	p := prog.New(first)
	if p == nil {
		t.Fatal("New: nil")
	}
	return p
}

// isEnd is whether a stage has no step.
func isEnd(t *testing.T, s prog.Stage) {
	t.Helper()
	if s.Do != nil {
		t.Fatal("a stage that must be the end has a Do")
	}
	ended(t, made(t, s), 0)
}

// The chapter's example.
func TestExample(t *testing.T) {
	d := &diary{}
	p := made(t, prog.Row(d.put("a"), d.put("b")))
	d.holds(t)
	goes(t, p)
	d.holds(t, "a")
	goes(t, p)
	d.holds(t, "a", "b")
	ended(t, p, 2)
	d.holds(t, "a", "b")
}

// P15.1

func TestNewOfTheEnd(t *testing.T) {
	isEnd(t, prog.Stage{})
}

func TestNewOfAStageWithoutADoIsDoneWhateverItsMaySays(t *testing.T) {
	for _, open := range []bool{false, true} {
		g := &gate{open: open}
		ended(t, made(t, prog.Stage{May: g.may}), 0)
	}
}

func TestZeroProgramIsDone(t *testing.T) {
	ended(t, &prog.Prog{}, 0)
}

func TestNewOfAStageWithADo(t *testing.T) {
	d := &diary{}
	p := made(t, prog.Stage{Do: d.step("a")})
	may(t, p, 0)
	d.holds(t)
	goes(t, p)
	d.holds(t, "a")
	ended(t, p, 1)
	d.holds(t, "a")
}

func TestEachStepIsOfTheStageThatTheOneAheadTold(t *testing.T) {
	d := &diary{}
	last := d.step("c")
	middle := func() prog.Stage {
		d.put("b")()
		return prog.Stage{Do: last}
	}
	p := made(t, prog.Stage{Do: func() prog.Stage {
		d.put("a")()
		return prog.Stage{Do: middle}
	}})
	for i, words := range [][]string{{"a"}, {"a", "b"}, {"a", "b", "c"}} {
		may(t, p, i)
		goes(t, p)
		d.holds(t, words...)
	}
	ended(t, p, 3)
}

func TestAStageThatMayNotBeMadeNow(t *testing.T) {
	d, g := &diary{}, &gate{}
	p := made(t, prog.Stage{May: g.may, Do: d.step("a")})
	for range 3 {
		waits(t, p, 0)
		d.holds(t)
	}
	g.open = true
	may(t, p, 0)
	d.holds(t)
	g.open = false
	waits(t, p, 0)
	d.holds(t)
	g.open = true
	goes(t, p)
	d.holds(t, "a")
	ended(t, p, 1)
}

func TestMayIsAskedAnewEachTime(t *testing.T) {
	d, g := &diary{}, &gate{}
	p := made(t, prog.Stage{May: g.may, Do: d.step("a")})
	if g.asked != 0 {
		t.Fatal("New asks May")
	}
	for i := range 4 {
		if p.May() || g.asked != 2*i+1 {
			t.Fatalf("May: asked %d times", g.asked)
		}
		if p.Step() || g.asked != 2*i+2 {
			t.Fatalf("Step: asked %d times", g.asked)
		}
	}
	g.open = true
	if !p.May() || g.asked != 9 || !p.Step() || g.asked != 10 {
		t.Fatalf("open: asked %d times", g.asked)
	}
	p.Done()
	p.Steps()
	if p.May() || p.Step() || g.asked != 10 {
		t.Fatalf("at the end: asked %d times", g.asked)
	}
}

func TestDoneAndStepsAskNothing(t *testing.T) {
	d, g := &diary{}, &gate{open: true}
	p := made(t, prog.Stage{May: g.may, Do: d.step("a")})
	if p.Done() || p.Steps() != 0 || g.asked != 0 {
		t.Fatalf("asked %d times", g.asked)
	}
	d.holds(t)
}

func TestAStageWithoutAMayMayBeMade(t *testing.T) {
	d, g := &diary{}, &gate{}
	p := made(t, prog.Stage{Do: func() prog.Stage {
		d.put("a")()
		return prog.Stage{May: g.may, Do: d.step("b")}
	}})
	may(t, p, 0)
	goes(t, p)
	waits(t, p, 1)
	d.holds(t, "a")
	g.open = true
	may(t, p, 1)
	goes(t, p)
	d.holds(t, "a", "b")
	ended(t, p, 2)
}

func TestAStageMayLeadToItself(t *testing.T) {
	n := 0
	var again func() prog.Stage
	again = func() prog.Stage {
		n++
		if n == 1000 {
			return prog.Stage{}
		}
		return prog.Stage{Do: again}
	}
	p := made(t, prog.Stage{Do: again})
	for i := range 1000 {
		may(t, p, i)
		goes(t, p)
		if n != i+1 {
			t.Fatalf("%d steps are made as %d", n, i+1)
		}
	}
	ended(t, p, 1000)
}

func TestProgramsAreApart(t *testing.T) {
	d := &diary{}
	s := prog.Row(d.put("a"), d.put("b"))
	p, q := made(t, s), made(t, s)
	goes(t, p)
	may(t, p, 1)
	may(t, q, 0)
	goes(t, p)
	goes(t, q)
	ended(t, p, 2)
	may(t, q, 1)
	goes(t, q)
	ended(t, q, 2)
	d.holds(t, "a", "b", "a", "b")
}

func TestNilProgram(t *testing.T) {
	var p *prog.Prog
	ended(t, p, 0)
}

// P15.2: Row

func TestRowOfNone(t *testing.T) {
	isEnd(t, prog.Row())
	isEnd(t, prog.Row([]func(){}...))
	isEnd(t, prog.Row(nil...))
}

func TestRowOfNilOnes(t *testing.T) {
	isEnd(t, prog.Row(nil, nil))
	for n := range 10 {
		isEnd(t, prog.Row(make([]func(), n)...))
	}
}

func TestRowOfOne(t *testing.T) {
	d := &diary{}
	s := prog.Row(d.put("a"))
	if s.May != nil {
		t.Fatal("a row has a May")
	}
	p := made(t, s)
	may(t, p, 0)
	d.holds(t)
	goes(t, p)
	d.holds(t, "a")
	ended(t, p, 1)
}

// Every row of four functions, of which any are nil.
func TestRowLeavesOutNilOnes(t *testing.T) {
	for some := range 1 << 4 {
		d := &diary{}
		var l []func()
		var words []string
		for i, word := range []string{"a", "b", "c", "d"} {
			if some>>i&1 == 0 {
				l = append(l, nil)
				continue
			}
			l = append(l, d.put(word))
			words = append(words, word)
		}
		p := made(t, prog.Row(l...))
		for i := range words {
			may(t, p, i)
			d.holds(t, words[:i]...)
			goes(t, p)
			d.holds(t, words[:i+1]...)
		}
		ended(t, p, len(words))
		d.holds(t, words...)
	}
}

func TestRowNeitherChangesNorKeepsItsList(t *testing.T) {
	d := &diary{}
	l := []func(){nil, d.put("a"), nil, d.put("b"), d.put("spare")}
	p := made(t, prog.Row(l[:4]...))
	if l[0] != nil || l[2] != nil {
		t.Fatal("the list is changed")
	}
	for _, i := range []int{1, 3, 4} {
		l[i]()
	}
	d.holds(t, "a", "b", "spare")
	d.l = nil
	l[1], l[3], l[4] = d.put("x"), nil, d.put("y")
	goes(t, p)
	l[1], l[3] = nil, d.put("z")
	goes(t, p)
	d.holds(t, "a", "b")
	ended(t, p, 2)
}

func TestRowMayBeGoneThroughAnew(t *testing.T) {
	d := &diary{}
	s := prog.Row(d.put("a"), d.put("b"))
	behind := s.Do()
	s.Do()
	d.holds(t, "a", "a")
	if behind.May != nil {
		t.Fatal("a row has a May")
	}
	end := behind.Do()
	behind.Do()
	d.holds(t, "a", "a", "b", "b")
	isEnd(t, end)
}

// P15.2: Until

func TestUntilWithAMay(t *testing.T) {
	d, g := &diary{}, &gate{}
	p := made(t, prog.Until(g.may, d.step("a")))
	if g.asked != 0 {
		t.Fatal("Until asks May")
	}
	d.holds(t)
	waits(t, p, 0)
	d.holds(t)
	g.open = true
	may(t, p, 0)
	d.holds(t)
	goes(t, p)
	d.holds(t, "a")
	ended(t, p, 1)
}

func TestUntilWithoutAMay(t *testing.T) {
	d := &diary{}
	s := prog.Until(nil, d.step("a"))
	if s.May != nil {
		t.Fatal("a May where there was none")
	}
	p := made(t, s)
	may(t, p, 0)
	goes(t, p)
	d.holds(t, "a")
	ended(t, p, 1)
}

func TestUntilWithoutADo(t *testing.T) {
	isEnd(t, prog.Until(nil, nil))
	for _, open := range []bool{false, true} {
		g := &gate{open: open}
		isEnd(t, prog.Until(g.may, nil))
	}
}

func TestUntilLeadsOn(t *testing.T) {
	d, g, h := &diary{}, &gate{open: true}, &gate{}
	p := made(t, prog.Until(g.may, func() prog.Stage {
		d.put("a")()
		return prog.Until(h.may, d.step("b"))
	}))
	goes(t, p)
	d.holds(t, "a")
	waits(t, p, 1)
	h.open = true
	goes(t, p)
	d.holds(t, "a", "b")
	ended(t, p, 2)
}
