package include_test

import (
	"reflect"
	"testing"

	"lassowork/api"
	"lassowork/auto"
	"lassowork/include"
	"lassowork/word"
)

func parse(t *testing.T, text string) api.Auto {
	t.Helper()
	a, line, e := auto.Parse(text)
	if e != api.OK {
		t.Fatal(text, line, e)
	}
	return a
}

func takes(t *testing.T, a api.Auto, l api.Lasso) bool {
	t.Helper()
	ok, e := word.Takes(a, l)
	if e != api.OK {
		t.Fatal(a, l, e)
	}
	return ok
}

// included: is a in b? What is told, if it is not, is taken by a and not by b; if it is, nothing is told.
func included(t *testing.T, a, b api.Auto) bool {
	t.Helper()
	ok, l, e := include.Included(a, b)
	if e != api.OK {
		t.Fatalf("%v in %v: %d", a, b, e)
	}
	if ok && len(l.Head)+len(l.Loop) > 0 {
		t.Fatalf("%v in %v: it is, but %v is told", a, b, l)
	}
	if !ok && (!takes(t, a, l) || takes(t, b, l)) {
		t.Fatalf("%v in %v: %v is told, taken by a: %v, by b: %v", a, b, l, takes(t, a, l), takes(t, b, l))
	}
	return ok
}

func same(t *testing.T, a, b api.Auto) bool {
	t.Helper()
	ok, e := include.Same(a, b)
	if e != api.OK {
		t.Fatalf("%v, %v: %d", a, b, e)
	}
	return ok
}

const (
	nothing  = "states 1 letters 2\nfirst\ngood\n"
	noGood   = "states 3 letters 2\nfirst 0 1 2\ngood\n0 0 1\n1 0 2\n2 0 0\n"
	zeros    = "states 1 letters 2\nfirst 0\ngood 0\n0 0 0\n"
	zeros3   = "states 3 letters 2\nfirst 0\ngood 2\n0 0 1\n1 0 2\n2 0 0\n"
	all      = "states 1 letters 2\nfirst 0\ngood 0\n0 0 0\n0 1 0\n"
	begin0   = "states 2 letters 2\nfirst 0\ngood 1\n0 0 1\n1 0 1\n1 1 1\n"
	begin1   = "states 2 letters 2\nfirst 0\ngood 1\n0 1 1\n1 0 1\n1 1 1\n"
	begins   = "states 2 letters 2\nfirst 0\ngood 1\n0 0 1\n0 1 1\n1 0 1\n1 1 1\n"
	many1    = "states 2 letters 2\nfirst 0\ngood 1\n0 0 0\n0 1 1\n1 0 0\n1 1 1\n"               // 1 again and again
	many1too = "states 2 letters 2\nfirst 0\ngood 1\n0 0 0\n0 1 0\n0 1 1\n1 0 0\n1 1 0\n1 1 1\n" // the same, with a choice
	many0    = "states 2 letters 2\nfirst 0\ngood 1\n0 0 1\n0 1 0\n1 0 1\n1 1 0\n"               // 0 again and again
	last1    = "states 2 letters 2\nfirst 0\ngood 1\n0 0 0\n0 1 0\n0 1 1\n1 1 1\n"               // 1 alone at last
	last0    = "states 2 letters 2\nfirst 0\ngood 1\n0 0 0\n0 0 1\n0 1 0\n1 0 1\n"               // 0 alone at last
	turns    = "states 2 letters 2\nfirst 0\ngood 0\n0 0 1\n1 1 0\n"                             // 0 1, again and again
	twins    = "states 2 letters 2\nfirst 0\ngood 0\n0 0 1\n0 1 1\n1 0 0\n1 1 0\n"               // all, by twos
	third1   = "states 3 letters 2\nfirst 0\ngood 0\n0 0 1\n0 1 1\n1 0 2\n1 1 2\n2 1 0\n"        // 1 at each third place
	two11    = "states 3 letters 2\nfirst 0\ngood 2\n0 0 0\n0 1 0\n0 1 1\n1 1 2\n2 0 2\n2 1 2\n" // 1 1 at some place
)

// G1: what is in what, told one by one.
func TestIncluded(t *testing.T) {
	for _, c := range []struct {
		name, a, b string
		in, out    bool // a in b, b in a
	}{
		{"nothing, and itself", nothing, nothing, true, true},
		{"nothing, and another nothing", nothing, noGood, true, true},
		{"nothing, and zeros", nothing, zeros, true, false},
		{"no good, and zeros", noGood, zeros, true, false},
		{"nothing, and all", nothing, all, true, false},
		{"zeros, and all", zeros, all, true, false},
		{"zeros, and zeros with three states", zeros, zeros3, true, true},
		{"begin with 0, and with 1", begin0, begin1, false, false},
		{"begin with 0, and all", begin0, all, true, false},
		{"begin with 0 or 1, and all", begins, all, true, true},
		{"all by twos, and all", twins, all, true, true},
		{"1 again and again, and with a choice", many1, many1too, true, true},
		{"1 at last, and again and again", last1, many1, true, false},
		{"1 at last, and 0 again and again", last1, many0, false, false},
		{"0 at last, and 1 again and again", last0, many1, false, false},
		{"1 at last, and 0 at last", last1, last0, false, false},
		{"turns, and 1 again and again", turns, many1, true, false},
		{"turns, and 0 again and again", turns, many0, true, false},
		{"turns, and 1 at last", turns, last1, false, false},
		{"1 at each third place, and again and again", third1, many1, true, false},
		{"1 at each third place, and 0 again and again", third1, many0, false, false},
		{"1 1 at some place, and 1 again and again", two11, many1, false, false},
		{"1 at last, and 1 1 at some place", last1, two11, true, false},
		{"turns, and 1 1 at some place", turns, two11, false, false},
	} {
		a, b := parse(t, c.a), parse(t, c.b)
		if in, out := included(t, a, b), included(t, b, a); in != c.in || out != c.out {
			t.Errorf("%s: %v, and the other way %v", c.name, in, out)
		}
		if got, other := same(t, a, b), same(t, b, a); got != (c.in && c.out) || other != got {
			t.Errorf("%s: the same: %v, and the other way %v", c.name, got, other)
		}
	}
}

// G1: with one letter there is one word alone: it is taken, or not.
func TestOneLetter(t *testing.T) {
	never := parse(t, "states 2 letters 1\nfirst 0\ngood 0\n0 0 1\n1 0 1\n")
	always := parse(t, "states 3 letters 1\nfirst 0\ngood 2\n0 0 1\n1 0 2\n2 0 2\n")
	for _, c := range []struct {
		a, b api.Auto
		want bool
	}{{never, never, true}, {never, always, true}, {always, never, false}, {always, always, true}} {
		if got := included(t, c.a, c.b); got != c.want {
			t.Errorf("%v in %v: %v", c.a, c.b, got)
		}
	}
}

// G1: words that are taken by one alone, but only long ones are: with 17 letters in Head, and with 9 in Loop; and automata whose words have very many boxes.
func TestFar(t *testing.T) {
	for _, c := range []struct {
		name, a, b string
		in, out    bool
	}{
		{"long head", "states 3 letters 2\nfirst 1\ngood 0 2\n0 1 2\n1 1 0\n2 0 1\n2 1 0\n", "states 3 letters 2\nfirst 0 1 2\ngood 1 2\n0 0 1\n0 0 2\n0 1 1\n1 0 2\n1 1 2\n2 1 0\n", false, false},
		{"long loop", "states 3 letters 2\nfirst 0\ngood 2\n0 1 1\n0 1 2\n1 0 1\n1 1 0\n1 1 1\n2 0 0\n2 1 0\n", "states 3 letters 2\nfirst 0 1\ngood 0\n0 1 0\n0 1 2\n1 0 2\n1 1 1\n1 1 2\n2 0 0\n2 0 1\n2 1 0\n", false, false},
		{"many boxes", "states 3 letters 2\nfirst 2\ngood 1 2\n0 1 0\n0 1 2\n1 0 2\n1 1 0\n1 1 1\n2 0 1\n2 1 0\n", "states 3 letters 2\nfirst\ngood 0 2\n0 0 1\n0 0 2\n0 1 1\n1 0 2\n1 1 0\n1 1 2\n2 1 0\n", false, true},
	} {
		a, b := parse(t, c.a), parse(t, c.b)
		if in, out := included(t, a, b), included(t, b, a); in != c.in || out != c.out {
			t.Errorf("%s: %v, and the other way %v", c.name, in, out)
		}
	}
}

// ring: each state leads to the next one by each letter, the last one to the first one; all are good, so all is taken.
func ring(states, letters int) api.Auto {
	a := api.Auto{States: states, Letters: letters, First: []int{0}, Good: make([]bool, states)}
	for from := range states {
		a.Good[from] = true
		for letter := range letters {
			a.Steps = append(a.Steps, api.Step{From: from, Letter: letter, To: (from + 1) % states})
		}
	}
	return a
}

// G1: errors of both calls: Check of a, of b, then the letters, then how many there may be.
func TestErrors(t *testing.T) {
	first := ring(2, 2)
	first.First = []int{2}
	falls := ring(2, 2)
	falls.First = []int{1, 0}
	good := ring(2, 2)
	good.Good = nil
	steps := ring(4, 3)
	steps.Steps[1].To = 4
	many := ring(1, 2)
	many.Steps = make([]api.Step, api.MaxSteps+1)
	for _, c := range []struct {
		name string
		a, b api.Auto
		want api.Errno
	}{
		{"right", ring(2, 2), ring(1, 2), api.OK},
		{"most states and letters", ring(3, 2), ring(3, 2), api.OK},
		{"a is zero", api.Auto{}, ring(1, 2), api.ErrRange},
		{"b is zero", ring(1, 2), api.Auto{}, api.ErrRange},
		{"a: no good, b: zero", good, api.Auto{}, api.ErrForm},
		{"a: first is none, b: no good", first, good, api.ErrNone},
		{"a: first falls, b: first is none", falls, first, api.ErrState},
		{"a: many steps, b: first is none", many, first, api.ErrMany},
		{"a: many states, b: first is none", ring(4, 2), first, api.ErrNone},
		{"a: many letters, b: first falls", ring(1, 3), falls, api.ErrState},
		{"a: a step to none, many states and letters", steps, ring(1, 2), api.ErrNone},
		{"other letters", ring(1, 1), ring(1, 2), api.ErrForm},
		{"other letters, the other way", ring(1, 2), ring(1, 1), api.ErrForm},
		{"other letters, many states", ring(4, 1), ring(4, 2), api.ErrForm},
		{"other letters, many of them", ring(1, 3), ring(1, 4), api.ErrForm},
		{"a: many states", ring(4, 2), ring(3, 2), api.ErrMany},
		{"b: many states", ring(3, 1), ring(4, 1), api.ErrMany},
		{"most of states that may be at all", ring(300, 1), ring(1, 1), api.ErrMany},
		{"many letters", ring(1, 3), ring(1, 3), api.ErrMany},
		{"most of letters that may be at all", ring(3, 8), ring(3, 8), api.ErrMany},
	} {
		ok, l, e := include.Included(c.a, c.b)
		if e != c.want || ok != (e == api.OK) || len(l.Head)+len(l.Loop) > 0 {
			t.Errorf("%s: %v %v %d, want %d", c.name, ok, l, e, c.want)
		}
		if ok, e := include.Same(c.a, c.b); e != c.want || ok != (e == api.OK) {
			t.Errorf("%s: Same: %v %d, want %d", c.name, ok, e, c.want)
		}
	}
}

// P2, P3: what is handed in stays as it is and is not kept; an answer is new memory, and the same each time.
func TestMemory(t *testing.T) {
	spare := func(text string) (api.Auto, api.Auto) {
		a := parse(t, text)
		whole := api.Auto{First: append(a.First, 9, 9, 9, 9), Good: append(a.Good, true, true, true, true), Steps: append(a.Steps, make([]api.Step, 9)...)}
		a.First, a.Good, a.Steps = whole.First[:len(a.First)], whole.Good[:len(a.Good)], whole.Steps[:len(a.Steps)]
		return a, whole
	}
	a, wholeA := spare(third1)
	b, wholeB := spare(two11)
	_, got, _ := include.Included(a, b)
	include.Same(a, b)
	_, sameA := spare(third1)
	_, sameB := spare(two11)
	if !reflect.DeepEqual(wholeA, sameA) || !reflect.DeepEqual(wholeB, sameB) {
		t.Error("what was handed in has changed", wholeA, wholeB)
	}
	for _, w := range []api.Auto{wholeA, wholeB} {
		clear(w.First)
		clear(w.Good)
		clear(w.Steps)
	}
	_, again, _ := include.Included(parse(t, third1), parse(t, two11))
	if !reflect.DeepEqual(got, again) || len(got.Loop) == 0 {
		t.Errorf("%v, and then %v", got, again)
	}
	got.Head = append(got.Head[:0], 5, 5, 5, 5)
	got.Loop = append(got.Loop[:0], 6, 6, 6, 6)
	if !reflect.DeepEqual(got, api.Lasso{Head: []int{5, 5, 5, 5}, Loop: []int{6, 6, 6, 6}}) {
		t.Error("lists of an answer share memory", got)
	}
	if _, third, _ := include.Included(parse(t, third1), parse(t, two11)); !reflect.DeepEqual(third, again) {
		t.Error("an answer is not the caller's", third)
	}
}
