package both_test

import (
	"slices"
	"testing"

	"lassowork/api"
	"lassowork/both"
)

// someTaken: Some tells a word that is taken, with not more letters in Head and Loop than states; or none, and nothing else.
func someTaken(t *testing.T, a api.Auto) bool {
	t.Helper()
	l, ok, e := both.Some(a)
	if e != api.OK {
		t.Fatal(a, e)
	}
	if !ok && len(l.Head)+len(l.Loop) > 0 {
		t.Fatalf("%v: %v, but false", a, l)
	}
	if ok && (len(l.Head) > a.States || len(l.Loop) > a.States || !takes(t, a, l)) {
		t.Fatalf("%v: %v", a, l)
	}
	return ok
}

// F2: is any word taken?
func TestSome(t *testing.T) {
	for _, c := range []struct {
		name, text string
		want       bool
	}{
		{"zeros", zeros, true}, {"all", all, true}, {"ones", ones, true}, {"at last", atLast, true}, {"turns", turns, true},
		{"no first, no steps", nothing, false},
		{"no first", "states 1 letters 1\nfirst\ngood 0\n0 0 0\n", false},
		{"no good", "states 1 letters 1\nfirst 0\ngood\n0 0 0\n", false},
		{"no steps", "states 1 letters 1\nfirst 0\ngood 0\n", false},
		{"good is not come to", "states 2 letters 1\nfirst 0\ngood 1\n0 0 0\n1 0 1\n", false},
		{"good is come to once", "states 3 letters 2\nfirst 0\ngood 1\n0 0 1\n1 1 2\n2 0 2\n", false},
		{"good is where it begins, once", "states 2 letters 2\nfirst 0\ngood 0\n0 0 1\n1 1 1\n", false},
		{"all good, but there is an end", "states 3 letters 2\nfirst 0\ngood 0 1 2\n0 0 1\n0 1 2\n1 0 2\n", false},
		{"the first good one is come to once, the second again and again", "states 3 letters 1\nfirst 0\ngood 1 2\n0 0 1\n1 0 2\n2 0 2\n", true},
		{"the second first one", "states 3 letters 1\nfirst 0 2\ngood 0 2\n0 0 1\n2 0 2\n", true},
		{"over the one where it begins", "states 2 letters 2\nfirst 0\ngood 1\n0 1 1\n1 0 0\n", true},
		{"good is where it begins, and is come to again", "states 2 letters 2\nfirst 0\ngood 0\n0 1 1\n1 0 0\n", true},
		{"from one first one to the other", "states 2 letters 1\nfirst 0 1\ngood 1\n0 0 1\n1 0 0\n", true},
	} {
		if got := someTaken(t, parse(t, c.text)); got != c.want {
			t.Errorf("%s: %v, want %v", c.name, got, c.want)
		}
	}
}

// F2: which word is told is free, but no letter is more than it takes.
func TestSomeShort(t *testing.T) {
	for text, want := range map[string]api.Lasso{
		zeros:  {Loop: []int{0}},
		ones:   {Head: []int{1}, Loop: []int{1}},
		turns:  {Loop: []int{0, 1}},
		atLast: {Head: []int{1}, Loop: []int{1}},
	} {
		got, ok, e := both.Some(parse(t, text))
		if !slices.Equal(got.Head, want.Head) || !slices.Equal(got.Loop, want.Loop) || !ok || e != api.OK {
			t.Errorf("%q: %v %v %d, want %v", text, got, ok, e, want)
		}
	}
}

// F2: errors: those of auto.Check.
func TestSomeErrors(t *testing.T) {
	for _, c := range []struct {
		name string
		turn func(*api.Auto)
		want api.Errno
	}{
		{"zero", func(a *api.Auto) { *a = api.Auto{} }, api.ErrRange},
		{"letters above", func(a *api.Auto) { a.Letters = 9 }, api.ErrRange},
		{"good above", func(a *api.Auto) { a.Good = make([]bool, 3) }, api.ErrForm},
		{"many steps", func(a *api.Auto) { a.Steps = make([]api.Step, 6001) }, api.ErrMany},
		{"first is none", func(a *api.Auto) { a.First = []int{-1} }, api.ErrNone},
		{"first twice", func(a *api.Auto) { a.First = []int{0, 0} }, api.ErrState},
		{"a step to none", func(a *api.Auto) { a.Steps[1].To = 2 }, api.ErrNone},
		{"a step twice", func(a *api.Auto) { a.Steps[1] = a.Steps[0] }, api.ErrState},
	} {
		a := parse(t, ones)
		c.turn(&a)
		if l, ok, e := both.Some(a); e != c.want || ok || len(l.Head)+len(l.Loop) > 0 {
			t.Errorf("%s: %v %v %d, want %d", c.name, l, ok, e, c.want)
		}
	}
}

// F2: drawn automata: if a word is taken, one is with no more letters in Head and Loop than states; so all of those are tried.
func TestSomeDrawn(t *testing.T) {
	d := draw(13)
	words := lassos(3, 3)
	yes, no := 0, 0
	for range 3000 {
		a := d.auto(1+d.n(3), 2, 2+d.n(5))
		want := false
		for _, l := range words {
			want = want || takes(t, a, l)
		}
		if got := someTaken(t, a); got != want {
			t.Fatalf("%v: %v, want %v", a, got, want)
		}
		if want {
			yes++
		} else {
			no++
		}
	}
	if yes < 500 || no < 500 {
		t.Errorf("%d take a word, %d take none: that tells little", yes, no)
	}
}

// F2: as many states as may be, and letters of Head and Loop.
func TestSomeGreatest(t *testing.T) {
	last := ring(300, 8)
	last.Good[299] = true
	if !someTaken(t, last) {
		t.Error("the last one is good: nothing is taken")
	}
	first := ring(300, 8)
	first.Good[0] = true
	if !someTaken(t, first) {
		t.Error("the first one is good: nothing is taken")
	}
	if someTaken(t, ring(300, 8)) {
		t.Error("none is good: a word is taken")
	}
}

// F2: all are good, and each leads to as many behind it as may be, but none back.
func TestSomeNoWayBack(t *testing.T) {
	a := api.Auto{States: 300, Letters: 1, First: []int{0}, Good: make([]bool, 300)}
	for from := range 300 {
		a.Good[from] = true
		for to := from + 1; to < min(300, from+21); to++ {
			a.Steps = append(a.Steps, api.Step{From: from, To: to})
		}
	}
	if someTaken(t, a) {
		t.Error("a word is taken")
	}
	a.Steps = append(a.Steps, api.Step{From: 299, To: 0})
	if !someTaken(t, a) {
		t.Error("with a way back nothing is taken")
	}
}

// F1, F2: what both take is told by Some of Both; if nothing is, no word is taken.
func TestSomeOfBoth(t *testing.T) {
	d := draw(14)
	words := lassos(4, 4)
	yes, no := 0, 0
	for range 400 {
		a := d.auto(2, 2, 1+d.n(3))
		b := d.auto(2, 2, 1+d.n(3))
		x, e := both.Both(a, b)
		if e != api.OK {
			t.Fatal(a, b, e)
		}
		l, ok, _ := both.Some(x)
		if ok {
			yes++
			if !takes(t, a, l) || !takes(t, b, l) {
				t.Fatalf("%v and %v: %v", a, b, l)
			}
			continue
		}
		no++
		for _, l := range words {
			if takes(t, a, l) && takes(t, b, l) {
				t.Fatalf("%v and %v: both take %v", a, b, l)
			}
		}
	}
	if yes < 40 || no < 40 {
		t.Errorf("%d take a word, %d take none: that tells little", yes, no)
	}
}
