package both_test

import (
	"reflect"
	"slices"
	"testing"

	"lassowork/api"
	"lassowork/auto"
	"lassowork/both"
	"lassowork/word"
)

// draw: numbers that look like drawn ones, the same each time.
type draw uint64

func (d *draw) n(n int) int {
	*d = *d*6364136223846793005 + 1442695040888963407
	return int(uint64(*d) >> 33 % uint64(n))
}

// auto that is right; a step is in it with 1 chance in rare.
func (d *draw) auto(states, letters, rare int) api.Auto {
	a := api.Auto{States: states, Letters: letters}
	for s := range states {
		if d.n(2) == 0 {
			a.First = append(a.First, s)
		}
		a.Good = append(a.Good, d.n(3) == 0)
		for l := range letters {
			for to := range states {
				if d.n(rare) == 0 {
					a.Steps = append(a.Steps, api.Step{From: s, Letter: l, To: to})
				}
			}
		}
	}
	return a
}

func parse(t *testing.T, text string) api.Auto {
	t.Helper()
	a, line, e := auto.Parse(text)
	if e != api.OK {
		t.Fatal(text, line, e)
	}
	return a
}

// full: all steps that there can be, from and to all states; it begins in the first one.
func full(states, letters int) api.Auto {
	a := api.Auto{States: states, Letters: letters, First: []int{0}, Good: make([]bool, states)}
	for from := range states {
		for letter := range letters {
			for to := range states {
				a.Steps = append(a.Steps, api.Step{From: from, Letter: letter, To: to})
			}
		}
	}
	return a
}

// ring: each state leads to the next one by each letter, the last one to the first one, where it begins.
func ring(states, letters int) api.Auto {
	a := api.Auto{States: states, Letters: letters, First: []int{0}, Good: make([]bool, states)}
	for from := range states {
		for letter := range letters {
			a.Steps = append(a.Steps, api.Step{From: from, Letter: letter, To: (from + 1) % states})
		}
	}
	return a
}

// with so many steps only.
func cut(a api.Auto, count int) api.Auto {
	a.Steps = a.Steps[:count]
	return a
}

// lassos with at most that many letters, 0 and 1, in Head, and in Loop.
func lassos(head, loop int) []api.Lasso {
	list := func(count, digits int) []int {
		var all []int
		for at := range count {
			all = append(all, digits>>at&1)
		}
		return all
	}
	var all []api.Lasso
	for h := range head + 1 {
		for n := 1; n <= loop; n++ {
			for digits := range 1 << (h + n) {
				all = append(all, api.Lasso{Head: list(h, digits), Loop: list(n, digits>>h)})
			}
		}
	}
	return all
}

func takes(t *testing.T, a api.Auto, l api.Lasso) bool {
	t.Helper()
	ok, e := word.Takes(a, l)
	if e != api.OK {
		t.Fatal(a, l, e)
	}
	return ok
}

func empty(a api.Auto) bool {
	return a.States == 0 && a.Letters == 0 && len(a.First)+len(a.Good)+len(a.Steps) == 0
}

const (
	zeros   = "states 1 letters 2\nfirst 0\ngood 0\n0 0 0\n"
	nothing = "states 1 letters 2\nfirst\ngood\n"
	all     = "states 1 letters 2\nfirst 0\ngood 0\n0 0 0\n0 1 0\n"
	ones    = "states 2 letters 2\nfirst 0\ngood 1\n0 0 0\n0 1 1\n1 0 0\n1 1 1\n"   // 1 again and again
	noughts = "states 2 letters 2\nfirst 0\ngood 1\n0 0 1\n0 1 0\n1 0 1\n1 1 0\n"   // 0 again and again
	atLast  = "states 2 letters 2\nfirst 0\ngood 1\n0 0 0\n0 1 0\n0 1 1\n1 1 1\n"   // 1 alone at last
	turns   = "states 3 letters 2\nfirst 0 2\ngood 0\n0 0 1\n1 1 0\n2 0 2\n2 1 2\n" // 0 and 1 by turns
)

// F1: by words told one by one.
func TestTwo(t *testing.T) {
	for _, c := range []struct {
		a, b         string
		l            api.Lasso
		either, both bool
	}{
		{zeros, nothing, api.Lasso{Loop: []int{0}}, true, false},
		{nothing, zeros, api.Lasso{Loop: []int{0}}, true, false},
		{zeros, nothing, api.Lasso{Head: []int{1}, Loop: []int{0}}, false, false},
		{nothing, nothing, api.Lasso{Loop: []int{0}}, false, false},
		{zeros, all, api.Lasso{Loop: []int{0}}, true, true},
		{zeros, all, api.Lasso{Loop: []int{1, 0}}, true, false},
		{ones, noughts, api.Lasso{Loop: []int{1, 0, 0}}, true, true},
		{ones, noughts, api.Lasso{Head: []int{0, 0}, Loop: []int{1}}, true, false},
		{ones, noughts, api.Lasso{Head: []int{1, 1}, Loop: []int{0}}, true, false},
		{atLast, ones, api.Lasso{Head: []int{1, 0}, Loop: []int{1}}, true, true},
		{atLast, noughts, api.Lasso{Head: []int{1, 0}, Loop: []int{1}}, true, false},
		{turns, ones, api.Lasso{Loop: []int{0, 1}}, true, true},
		{turns, ones, api.Lasso{Loop: []int{1, 0}}, true, false},
		{turns, atLast, api.Lasso{Loop: []int{0, 1}}, true, false},
		{turns, atLast, api.Lasso{Loop: []int{1, 0}}, false, false},
	} {
		a, b := parse(t, c.a), parse(t, c.b)
		x, e := both.Either(a, b)
		if got := takes(t, x, c.l); got != c.either || e != api.OK {
			t.Errorf("Either of %q, %q, %v: %v %d", c.a, c.b, c.l, got, e)
		}
		x, e = both.Both(a, b)
		if got := takes(t, x, c.l); got != c.both || e != api.OK {
			t.Errorf("Both of %q, %q, %v: %v %d", c.a, c.b, c.l, got, e)
		}
	}
}

// F1: drawn automata: what one of both takes, and what both do, and how many states there are.
func TestTwoDrawn(t *testing.T) {
	d := draw(11)
	words := lassos(3, 4)
	count := map[[2]bool]int{}
	for range 1500 {
		a := d.auto(1+d.n(4), 2, 1+d.n(4))
		b := d.auto(1+d.n(4), 2, 1+d.n(4))
		x, e1 := both.Either(a, b)
		y, e2 := both.Both(a, b)
		if e1 != api.OK || e2 != api.OK || auto.Check(x) != api.OK || auto.Check(y) != api.OK || x.Letters != 2 || y.Letters != 2 {
			t.Fatal(a, b, x, e1, y, e2)
		}
		if x.States > a.States+b.States || y.States > 3*a.States*b.States {
			t.Fatalf("%d and %d states: Either has %d, Both %d", a.States, b.States, x.States, y.States)
		}
		for range 25 {
			l := words[d.n(len(words))]
			p, q := takes(t, a, l), takes(t, b, l)
			count[[2]bool{p, q}]++
			if takes(t, x, l) != (p || q) || takes(t, y, l) != (p && q) {
				t.Fatalf("%v and %v: of %v %v, %v: Either %v, Both %v", a, b, l, p, q, takes(t, x, l), takes(t, y, l))
			}
		}
	}
	for _, p := range []bool{false, true} {
		for _, q := range []bool{false, true} {
			if count[[2]bool{p, q}] < 1000 {
				t.Errorf("%v: that tells little", count)
			}
		}
	}
}

// F1: errors of both calls: Check of a, of b, then the letters.
func TestTwoErrors(t *testing.T) {
	right := ring(2, 2)
	unlike := ring(2, 3)
	first := ring(2, 2)
	first.First = []int{2}
	falls := ring(2, 2)
	falls.First = []int{1, 0}
	good := ring(2, 2)
	good.Good = nil
	many := full(28, 8) // 6272 steps
	for _, c := range []struct {
		name string
		a, b api.Auto
		want api.Errno
	}{
		{"right", right, right, api.OK},
		{"a is zero", api.Auto{}, right, api.ErrRange},
		{"b is zero", right, api.Auto{}, api.ErrRange},
		{"a: no good, b: zero", good, api.Auto{}, api.ErrForm},
		{"a: first is none, b: no good", first, good, api.ErrNone},
		{"a: many steps, b: first is none", many, first, api.ErrMany},
		{"a: right, b: first falls", unlike, falls, api.ErrState},
		{"a: first falls, other letters", falls, unlike, api.ErrState},
		{"other letters", right, unlike, api.ErrForm},
		{"other letters, the other way", unlike, right, api.ErrForm},
		{"other letters, many states", ring(300, 2), ring(300, 1), api.ErrForm},
		{"other letters, many steps", full(27, 8), full(60, 1), api.ErrForm},
	} {
		for name, call := range map[string]func(a, b api.Auto) (api.Auto, api.Errno){"Either": both.Either, "Both": both.Both} {
			if got, e := call(c.a, c.b); e != c.want || empty(got) != (e != api.OK) {
				t.Errorf("%s: %s: %d, want %d", c.name, name, e, c.want)
			}
		}
	}
}

// F1: how many states and steps there may be, told together.
func TestEitherMany(t *testing.T) {
	for _, c := range []struct {
		name string
		a, b api.Auto
		want api.Errno
	}{
		{"most states", ring(150, 2), ring(150, 2), api.OK},
		{"most states, one of one", ring(299, 2), ring(1, 2), api.OK},
		{"more states", ring(150, 2), ring(151, 2), api.ErrMany},
		{"more states, the other way", ring(300, 2), ring(1, 2), api.ErrMany},
		{"most steps", cut(full(60, 1), 3000), cut(full(60, 1), 3000), api.OK},
		{"more steps", cut(full(60, 1), 3001), cut(full(60, 1), 3000), api.ErrMany},
		{"more steps, the other way", cut(full(60, 1), 2500), cut(full(60, 1), 3501), api.ErrMany},
	} {
		got, e := both.Either(c.a, c.b)
		if e != c.want || empty(got) != (e != api.OK) || e == api.OK && auto.Check(got) != api.OK {
			t.Errorf("%s: %d, want %d", c.name, e, c.want)
		}
	}
}

// F1: how many states there may be, one times the other, and how many steps there must be ahead of ErrMany.
func TestBothMany(t *testing.T) {
	good := func(a api.Auto) api.Auto {
		for at := range a.Good {
			a.Good[at] = true
		}
		return a
	}
	for _, c := range []struct {
		name string
		a, b api.Auto
		want api.Errno
	}{
		{"most states", ring(10, 2), ring(10, 2), api.OK},
		{"most states, one of one", ring(1, 2), ring(100, 2), api.OK},
		{"most states, all good, and all pairs are come to", good(ring(25, 1)), good(ring(4, 1)), api.OK},
		{"more states", ring(101, 2), ring(1, 2), api.ErrMany},
		{"more states, the other way", ring(2, 2), ring(51, 2), api.ErrMany},
		{"most of each", ring(300, 2), ring(300, 2), api.ErrMany},
		{"most steps", good(cut(full(10, 1), 40)), good(cut(full(10, 1), 50)), api.OK},
		{"many steps, of other letters each", good(cut(full(1, 8), 1)), good(full(27, 8)), api.OK},
		{"more steps", good(full(10, 1)), good(full(10, 1)), api.ErrMany},
		{"more steps, none is good", full(10, 1), full(10, 1), api.ErrMany},
		{"more steps by all letters alone", good(full(5, 8)), good(full(10, 8)), api.ErrMany},
	} {
		got, e := both.Both(c.a, c.b)
		if e != c.want || empty(got) != (e != api.OK) || e == api.OK && auto.Check(got) != api.OK {
			t.Errorf("%s: %d, want %d", c.name, e, c.want)
		}
	}
}

// F1: ErrMany is told of steps only if there would be more than MaxSteps: three times, for each letter, a's times b's.
func TestBothManySteps(t *testing.T) {
	d := draw(12)
	told, near := 0, 0
	for range 800 {
		letters := 1 + d.n(3)
		a := d.auto(1+d.n(10), letters, 1+d.n(3))
		b := d.auto(1+d.n(10), letters, 1+d.n(3))
		would := 0
		for _, s := range a.Steps {
			for _, t := range b.Steps {
				if s.Letter == t.Letter {
					would += 3
				}
			}
		}
		got, e := both.Both(a, b)
		switch {
		case e == api.OK && auto.Check(got) == api.OK:
			if would > 4000 {
				near++
			}
		case e == api.ErrMany && would > api.MaxSteps && empty(got):
			told++
		default:
			t.Fatalf("%v and %v: %d, there would be %d steps", a, b, e, would)
		}
	}
	if told < 50 || near < 50 {
		t.Errorf("told %d times, near %d times: that tells little", told, near)
	}
}

// P2, P3: what is handed in stays as it is and is not kept; an answer is new memory, and the same each time.
func TestMemory(t *testing.T) {
	spare := func(a api.Auto) (api.Auto, api.Auto) {
		whole := api.Auto{First: append(a.First, 9, 9, 9, 9), Good: append(a.Good, true, true, true, true), Steps: append(a.Steps, make([]api.Step, 9)...)}
		a.First, a.Good, a.Steps = whole.First[:len(a.First)], whole.Good[:len(a.Good)], whole.Steps[:len(a.Steps)]
		return a, whole
	}
	wipe := func(a api.Auto) {
		clear(a.First)
		clear(a.Good)
		clear(a.Steps)
	}
	for _, call := range []func(a, b api.Auto) (api.Auto, api.Errno){both.Either, both.Both} {
		a, wholeA := spare(parse(t, turns))
		b, wholeB := spare(parse(t, ones))
		got, e := call(a, b)
		_, sameA := spare(parse(t, turns))
		_, sameB := spare(parse(t, ones))
		if e != api.OK || !reflect.DeepEqual(wholeA, sameA) || !reflect.DeepEqual(wholeB, sameB) {
			t.Error("what was handed in has changed", wholeA, wholeB, e)
		}
		wipe(wholeA)
		wipe(wholeB)
		again, _ := call(parse(t, turns), parse(t, ones))
		if !reflect.DeepEqual(got, again) {
			t.Errorf("%v, and then %v", got, again)
		}
	}
	a, whole := spare(parse(t, "states 3 letters 2\nfirst 0\ngood 2\n0 1 1\n1 1 2\n2 0 1\n"))
	got, ok, _ := both.Some(a)
	if _, same := spare(parse(t, "states 3 letters 2\nfirst 0\ngood 2\n0 1 1\n1 1 2\n2 0 1\n")); !reflect.DeepEqual(whole, same) {
		t.Error("what was handed in has changed", whole)
	}
	wipe(whole)
	if want := (api.Lasso{Head: []int{1, 1}, Loop: []int{0, 1}}); !reflect.DeepEqual(got, want) || !ok {
		t.Error(got, ok)
	}
	got.Head = append(got.Head, 5, 5)
	got.Loop = append(got.Loop, 6, 6)
	if !slices.Equal(got.Head, []int{1, 1, 5, 5}) || !slices.Equal(got.Loop, []int{0, 1, 6, 6}) {
		t.Error("lists of an answer share memory", got)
	}
}
