package prog_test

import (
	"strconv"
	"testing"

	"verge/prog"
)

// rest is a rest that puts a word into the diary when it is asked, and answers a stage.
func (d *diary) rest(word string, s prog.Stage) func() prog.Stage {
	return func() prog.Stage {
		d.put(word)()
		return s
	}
}

// P15.2: Then

func TestThenOfTheEndAsksRestAtOnce(t *testing.T) {
	g := &gate{}
	for _, end := range []prog.Stage{{}, {May: g.may}, prog.Row(), prog.Row(nil, nil), prog.Until(g.may, nil)} {
		d := &diary{}
		s := prog.Then(end, d.rest("rest", prog.Row(d.put("a"))))
		d.holds(t, "rest")
		if s.May != nil {
			t.Fatal("the May of an end is kept")
		}
		p := made(t, s)
		may(t, p, 0)
		goes(t, p)
		d.holds(t, "rest", "a")
		ended(t, p, 1)
		d.holds(t, "rest", "a")
	}
	if g.asked != 0 {
		t.Fatal("the May of an end is asked")
	}
}

func TestThenOfTheEndIsTheRestItself(t *testing.T) {
	d, g := &diary{}, &gate{}
	p := made(t, prog.Then(prog.Stage{}, d.rest("rest", prog.Until(g.may, d.step("a")))))
	waits(t, p, 0)
	g.open = true
	goes(t, p)
	d.holds(t, "rest", "a")
	ended(t, p, 1)
}

func TestThenOfTwoEnds(t *testing.T) {
	d := &diary{}
	isEnd(t, prog.Then(prog.Stage{}, d.rest("rest", prog.Stage{})))
	d.holds(t, "rest")
}

func TestThenOfARow(t *testing.T) {
	d := &diary{}
	p := made(t, prog.Then(prog.Row(d.put("a"), nil, d.put("b")), d.rest("rest", prog.Row(d.put("c"), d.put("d")))))
	may(t, p, 0)
	d.holds(t)
	goes(t, p)
	d.holds(t, "a")
	may(t, p, 1)
	d.holds(t, "a")
	goes(t, p)
	may(t, p, 2)
	goes(t, p)
	d.holds(t, "a", "b", "rest", "c")
	may(t, p, 3)
	goes(t, p)
	d.holds(t, "a", "b", "rest", "c", "d")
	ended(t, p, 4)
	d.holds(t, "a", "b", "rest", "c", "d")
}

// Behind the last step of what stands ahead the program is at the rest: at its end, if that is one.
func TestThenWithARestThatIsTheEnd(t *testing.T) {
	d := &diary{}
	p := made(t, prog.Then(prog.Row(d.put("a"), d.put("b")), d.rest("rest", prog.Stage{})))
	goes(t, p)
	may(t, p, 1)
	goes(t, p)
	ended(t, p, 2)
	d.holds(t, "a", "b", "rest")
}

func TestThenWaitsWhereItsFirstDoes(t *testing.T) {
	d, g, h := &diary{}, &gate{}, &gate{}
	first := prog.Until(g.may, func() prog.Stage {
		d.put("a")()
		return prog.Until(h.may, d.step("b"))
	})
	p := made(t, prog.Then(first, d.rest("rest", prog.Row(d.put("c")))))
	if g.asked != 0 {
		t.Fatal("Then asks May")
	}
	waits(t, p, 0)
	d.holds(t)
	g.open = true
	may(t, p, 0)
	goes(t, p)
	d.holds(t, "a")
	waits(t, p, 1)
	d.holds(t, "a")
	h.open, g.open = true, false
	may(t, p, 1)
	goes(t, p)
	may(t, p, 2)
	goes(t, p)
	d.holds(t, "a", "b", "rest", "c")
	ended(t, p, 3)
}

func TestThenWaitsWhereItsRestDoes(t *testing.T) {
	d, g := &diary{}, &gate{}
	p := made(t, prog.Then(prog.Row(d.put("a")), d.rest("rest", prog.Until(g.may, d.step("b")))))
	goes(t, p)
	waits(t, p, 1)
	d.holds(t, "a", "rest")
	g.open = true
	goes(t, p)
	d.holds(t, "a", "rest", "b")
	ended(t, p, 2)
}

// Then within first and within rest: the same steps, and each rest is asked just once, in its turn.
func TestThenWithinThen(t *testing.T) {
	d := &diary{}
	within := map[string]func() prog.Stage{
		"first": func() prog.Stage {
			inner := prog.Then(prog.Row(d.put("a")), d.rest("one", prog.Row(d.put("b"))))
			return prog.Then(inner, d.rest("two", prog.Row(d.put("c"))))
		},
		"rest": func() prog.Stage {
			return prog.Then(prog.Row(d.put("a")), func() prog.Stage {
				d.put("one")()
				return prog.Then(prog.Row(d.put("b")), d.rest("two", prog.Row(d.put("c"))))
			})
		},
	}
	for name, s := range within {
		t.Run(name, func(t *testing.T) {
			d.l = nil
			p := made(t, s())
			d.holds(t)
			goes(t, p)
			d.holds(t, "a", "one")
			may(t, p, 1)
			goes(t, p)
			d.holds(t, "a", "one", "b", "two")
			may(t, p, 2)
			goes(t, p)
			ended(t, p, 3)
			d.holds(t, "a", "one", "b", "two", "c")
		})
	}
}

// What a step of first leads to may be made by Then itself.
func TestThenOfAStageThatLeadsToThen(t *testing.T) {
	d := &diary{}
	first := prog.Until(nil, func() prog.Stage {
		d.put("a")()
		return prog.Then(prog.Stage{}, d.rest("one", prog.Row(d.put("b"))))
	})
	p := made(t, prog.Then(first, d.rest("two", prog.Stage{})))
	goes(t, p)
	d.holds(t, "a", "one")
	goes(t, p)
	d.holds(t, "a", "one", "b", "two")
	ended(t, p, 2)
}

// Any number of ends ahead of a step: each rest is asked in its turn, within the step ahead.
func TestThenOfManyEnds(t *testing.T) {
	d := &diary{}
	s := prog.Row(d.put("a"))
	words := []string{"a"}
	for i := range 50 {
		s = prog.Then(s, d.rest(strconv.Itoa(i), prog.Stage{}))
		words = append(words, strconv.Itoa(i))
	}
	p := made(t, prog.Then(s, d.rest("rest", prog.Row(d.put("b")))))
	d.holds(t)
	goes(t, p)
	d.holds(t, append(words, "rest")...)
	goes(t, p)
	ended(t, p, 2)
}

func TestThenWithoutARest(t *testing.T) {
	d, g := &diary{}, &gate{}
	isEnd(t, prog.Then(prog.Stage{}, nil))
	isEnd(t, prog.Then(prog.Until(g.may, nil), nil))
	p := made(t, prog.Then(prog.Row(d.put("a"), d.put("b")), nil))
	goes(t, p)
	may(t, p, 1)
	goes(t, p)
	ended(t, p, 2)
	d.holds(t, "a", "b")
}

func TestThenMayBeGoneThroughAnew(t *testing.T) {
	d := &diary{}
	s := prog.Then(prog.Row(d.put("a")), d.rest("rest", prog.Row(d.put("b"))))
	p, q := made(t, s), made(t, s)
	goes(t, p)
	goes(t, q)
	d.holds(t, "a", "rest", "a", "rest")
	goes(t, p)
	goes(t, q)
	ended(t, p, 2)
	ended(t, q, 2)
	d.holds(t, "a", "rest", "a", "rest", "b", "b")
}

// A rest may lead to the same Then again, any number of times.
func TestThenRoundAndRound(t *testing.T) {
	const rounds = 20000
	n := 0
	var round func() prog.Stage
	round = func() prog.Stage {
		if n == rounds {
			return prog.Stage{}
		}
		return prog.Then(prog.Row(func() { n++ }), round)
	}
	p := made(t, round())
	for p.Step() {
	}
	if n != rounds {
		t.Fatalf("%d rounds, want %d", n, rounds)
	}
	ended(t, p, rounds)
}

// P15.3

func TestARowMakesAsManySteps(t *testing.T) {
	for _, n := range []int{0, 1, 2, 3, 10, 64, 1000} {
		var l []func()
		var done []int
		for i := range n {
			l = append(l, func() { done = append(done, i) })
		}
		p := made(t, prog.Row(l...))
		for i := range n {
			may(t, p, i)
			goes(t, p)
			if len(done) != i+1 || done[i] != i {
				t.Fatalf("row of %d: %v behind %d steps", n, done, i+1)
			}
		}
		ended(t, p, n)
	}
}

func TestWhatStandsBehindBeginsBehindTheLast(t *testing.T) {
	for n := range 6 {
		for m := range 6 {
			var done []int
			row := func(from, n int) prog.Stage {
				var l []func()
				for i := range n {
					l = append(l, func() { done = append(done, from+i) })
				}
				return prog.Row(l...)
			}
			asked := 0
			p := made(t, prog.Then(row(0, n), func() prog.Stage {
				asked++
				if len(done) != n {
					t.Fatalf("rest is asked behind %d steps of %d", len(done), n)
				}
				return row(n, m)
			}))
			for i := range n + m {
				may(t, p, i)
				goes(t, p)
				if len(done) != i+1 || done[i] != i {
					t.Fatalf("rows of %d and %d: %v behind %d steps", n, m, done, i+1)
				}
			}
			ended(t, p, n+m)
			if asked != 1 {
				t.Fatalf("rest is asked %d times", asked)
			}
		}
	}
}
