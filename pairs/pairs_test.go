package pairs_test

import (
	"testing"

	"lassowork/api"
	"lassowork/auto"
	"lassowork/pairs"
	"lassowork/word"
)

// ring of states, the first of which is good; by letter 0 alone.
func ring(states, letters int) api.Auto {
	a := api.Auto{States: states, Letters: letters, First: []int{0}, Good: make([]bool, states)}
	for from := range states {
		a.Steps = append(a.Steps, api.Step{From: from, To: (from + 1) % states})
	}
	a.Good[0] = true
	return a
}

func TestCheck(t *testing.T) {
	falls := ring(2, 2)
	falls.First = []int{1, 0}
	for _, c := range []struct {
		name string
		a, b api.Auto
		want api.Errno
	}{
		{"right", ring(300, 2), ring(300, 2), api.OK},
		{"a", falls, api.Auto{}, api.ErrState},
		{"b", ring(1, 2), falls, api.ErrState},
		{"b, other letters", ring(1, 1), falls, api.ErrState},
		{"other letters", ring(1, 2), ring(1, 3), api.ErrForm},
	} {
		if e := pairs.Check(c.a, c.b); e != c.want {
			t.Errorf("%s: %d, want %d", c.name, e, c.want)
		}
	}
}

// A word is taken just if good states of both come again and again: a's behind 1, b's behind 0.
func TestAuto(t *testing.T) {
	a, _, e1 := auto.Parse("states 2 letters 2\nfirst 0\ngood 1\n0 0 0\n0 1 1\n1 0 0\n1 1 1\n")
	b, _, e2 := auto.Parse("states 2 letters 2\nfirst 0\ngood 1\n0 0 1\n0 1 0\n1 0 1\n1 1 0\n")
	got := pairs.Auto(a, b)
	if e := auto.Check(got); e != api.OK || e1 != api.OK || e2 != api.OK || got.States > 8 || got.Letters != 2 {
		t.Fatal(got, e, e1, e2)
	}
	for _, c := range []struct {
		l    api.Lasso
		want bool
	}{
		{api.Lasso{Loop: []int{0, 1}}, true},
		{api.Lasso{Head: []int{1, 1}, Loop: []int{0, 0, 1, 1, 1}}, true},
		{api.Lasso{Head: []int{0, 1, 0}, Loop: []int{1}}, false},
		{api.Lasso{Head: []int{0, 1, 0}, Loop: []int{0}}, false},
	} {
		if ok, e := word.Takes(got, c.l); ok != c.want || e != api.OK {
			t.Errorf("%v: %v %d", c.l, ok, e)
		}
	}
}

// More states than an automaton of the caller may have: no limit is held.
func TestGreat(t *testing.T) {
	got := pairs.Auto(ring(40, 1), ring(41, 1))
	if got.States < 40*41 || got.States > 2*40*41 || len(got.Steps) != got.States {
		t.Errorf("%d states, %d steps", got.States, len(got.Steps))
	}
}
