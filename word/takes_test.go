package word_test

import (
	"slices"
	"testing"

	"lassowork/api"
	"lassowork/auto"
	"lassowork/word"
)

// draw: numbers that look like drawn ones, the same each time.
type draw uint64

func (d *draw) n(n int) int {
	*d = *d*6364136223846793005 + 1442695040888963407
	return int(uint64(*d) >> 33 % uint64(n))
}

// auto that is right, with few good states; a step is in it with 1 chance in rare.
func (d *draw) auto(states, letters, rare int) api.Auto {
	a := api.Auto{States: states, Letters: letters, First: []int{d.n(states)}}
	for s := range states {
		a.Good = append(a.Good, d.n(3) == 0)
		for l := range letters {
			for to := range states {
				if d.n(rare) == 0 {
					a.Steps = append(a.Steps, api.Step{From: s, Letter: l, To: to})
				}
			}
		}
	}
	return a
}

// slowTakes: the plain words of api, over all pairs of spots.
func slowTakes(a api.Auto, l api.Lasso) bool {
	places := len(l.Head) + len(l.Loop)
	word := slices.Concat(l.Head, l.Loop)
	reach := make([][]bool, places*a.States) // in one step, or more
	for i := range reach {
		reach[i] = make([]bool, len(reach))
	}
	for p, letter := range word {
		next := p + 1
		if next == places {
			next = len(l.Head)
		}
		for _, s := range a.Steps {
			if s.Letter == letter {
				reach[p*a.States+s.From][next*a.States+s.To] = true
			}
		}
	}
	for k := range reach {
		for i := range reach {
			for j := range reach {
				reach[i][j] = reach[i][j] || reach[i][k] && reach[k][j]
			}
		}
	}
	for _, f := range a.First {
		for i := range reach {
			if (i == f || reach[f][i]) && reach[i][i] && a.Good[i%a.States] {
				return true
			}
		}
	}
	return false
}

// B3.
func TestTakes(t *testing.T) {
	const (
		zeros  = "states 1 letters 2\nfirst 0\ngood 0\n0 0 0\n"
		ones   = "states 2 letters 2\nfirst 0\ngood 1\n0 0 0\n0 1 1\n1 0 0\n1 1 1\n"                 // 1 again and again
		atLast = "states 2 letters 2\nfirst 0\ngood 1\n0 0 0\n0 1 0\n0 1 1\n1 1 1\n"                 // 1 alone at last
		turns  = "states 3 letters 2\nfirst 0 2\ngood 0\n0 0 1\n1 1 0\n2 0 2\n2 1 2\n"               // 0 and 1 by turns
		dies   = "states 3 letters 2\nfirst 0\ngood 0 1 2\n0 0 1\n1 0 2\n"                           // no endless way
		apart  = "states 3 letters 2\nfirst 0\ngood 2\n0 0 0\n0 1 1\n1 0 1\n1 1 0\n2 0 2\n2 1 2\n"   // good is not come to
		once   = "states 3 letters 2\nfirst 0\ngood 1\n0 0 1\n0 1 1\n1 0 2\n1 1 2\n2 0 2\n2 1 2\n"   // good only once
		noway  = "states 2 letters 2\nfirst\ngood 0 1\n0 0 0\n0 1 0\n"                               // it may not begin
		second = "states 4 letters 2\nfirst 0 2\ngood 3\n0 0 0\n0 1 0\n2 0 3\n2 1 2\n3 0 3\n3 1 2\n" // 0 again and again, by the second
	)
	for _, c := range []struct {
		text       string
		head, loop []int
		want       bool
	}{
		{zeros, nil, []int{0}, true}, {zeros, []int{1}, []int{0}, false}, {zeros, []int{0, 0}, []int{0, 1}, false},
		{ones, nil, []int{0}, false}, {ones, []int{1, 1}, []int{0}, false}, {ones, nil, []int{0, 0, 1}, true}, {ones, []int{0}, []int{1}, true},
		{atLast, nil, []int{1}, true}, {atLast, []int{0, 1, 0}, []int{1, 1}, true}, {atLast, nil, []int{0, 1}, false},
		{turns, nil, []int{0, 1}, true}, {turns, []int{0}, []int{1, 0}, true}, {turns, []int{1}, []int{0, 1}, false}, {turns, nil, []int{0, 1, 0}, false},
		{dies, nil, []int{0}, false}, {apart, nil, []int{0, 1}, false}, {once, []int{0}, []int{0, 1}, false}, {noway, nil, []int{0}, false},
		{second, nil, []int{0}, true}, {second, []int{0, 0}, []int{1}, false}, {second, nil, []int{1, 1, 0}, true},
	} {
		if got, e := word.Takes(parse(t, c.text), lasso(c.head, c.loop)); got != c.want || e != api.OK {
			t.Errorf("%q, %v %v: %v %d, want %v", c.text, c.head, c.loop, got, e, c.want)
		}
	}
}

// B3: errors: of the automaton, then of the lasso by its letters.
func TestTakesErrors(t *testing.T) {
	right := func() api.Auto { return parse(t, "states 1 letters 2\nfirst 0\ngood 0\n0 0 0\n0 1 0\n") }
	for _, c := range []struct {
		name string
		turn func(*api.Auto)
		l    api.Lasso
		want api.Errno
	}{
		{"right", func(a *api.Auto) {}, lasso(nil, []int{1}), api.OK},
		{"no letter of it", func(a *api.Auto) {}, lasso(nil, []int{2}), api.ErrNone},
		{"a letter of it", func(a *api.Auto) { a.Letters = 3 }, lasso([]int{2}, []int{0}), api.OK},
		{"no loop", func(a *api.Auto) {}, api.Lasso{}, api.ErrForm},
		{"long head", func(a *api.Auto) {}, lasso(make([]int, 4001), []int{0}), api.ErrMany},
		{"letters above", func(a *api.Auto) { a.Letters = 9 }, lasso(nil, []int{0}), api.ErrRange},
		{"zero", func(a *api.Auto) { *a = api.Auto{} }, api.Lasso{}, api.ErrRange},
		{"no good, no loop", func(a *api.Auto) { a.Good = nil; a.Letters = 1 }, lasso(make([]int, 4001), nil), api.ErrForm},
		{"first none, no loop", func(a *api.Auto) { a.First = []int{1} }, api.Lasso{}, api.ErrNone},
		{"steps fall, no letter", func(a *api.Auto) { a.Steps[1] = a.Steps[0] }, lasso(nil, []int{7}), api.ErrState},
	} {
		a := right()
		c.turn(&a)
		if got, e := word.Takes(a, c.l); e != c.want || got && e != api.OK {
			t.Errorf("%s: %v %d, want %d", c.name, got, e, c.want)
		}
	}
}

// B3, B4, A5: held against the plain words; a lasso and its least, an automaton and what is left of it when trimmed, agree.
func TestTakesDrawn(t *testing.T) {
	d := draw(7)
	words := lassos(2, 3)
	var taken, not int
	for range 600 {
		states := 1 + d.n(5)
		a := d.auto(states, 2, 1+d.n(2*states))
		if d.n(2) == 0 && a.First[0]+1 < states {
			a.First = append(a.First, states-1)
		}
		trimmed, e := auto.Trim(a)
		if e != api.OK || auto.Check(trimmed) != api.OK {
			t.Fatal(a, trimmed, e)
		}
		for range 8 {
			l := words[d.n(len(words))]
			want := slowTakes(a, l)
			least, _ := word.Least(l, 2)
			for _, c := range []struct {
				a api.Auto
				l api.Lasso
			}{{a, l}, {a, least}, {trimmed, l}} {
				if got, e := word.Takes(c.a, c.l); got != want || e != api.OK {
					t.Fatalf("%v, %v: %v %d, want %v", c.a, c.l, got, e, want)
				}
			}
			if want {
				taken++
			} else {
				not++
			}
		}
	}
	if taken < 500 || not < 500 {
		t.Errorf("%d are taken, %d are not: that tells little", taken, not)
	}
}

// B4: all lassos of the same word are taken, or none.
func TestTakesSameWord(t *testing.T) {
	d := draw(3)
	for range 60 {
		a := d.auto(4, 2, 4)
		taken := map[string]bool{}
		for _, l := range lassos(2, 4) {
			key := ""
			for _, letter := range letters(l, 2+12) {
				key += string(rune('0' + letter))
			}
			got, e := word.Takes(a, l)
			if old, ok := taken[key]; ok && old != got || e != api.OK {
				t.Fatalf("%v, %v: %v %d", a, l, got, e)
			}
			taken[key] = got
		}
	}
}

// B3, P4: as great as may be, with nothing to be found till all was gone through.
func TestTakesGreatest(t *testing.T) {
	// rising steps alone: state 0 is not come to again, the others are
	rising := api.Auto{States: 300, Letters: 8, First: []int{0}, Good: make([]bool, 300)}
	// all good states end the run
	dense := api.Auto{States: 300, Letters: 8, First: []int{0}, Good: make([]bool, 300)}
	for s := range 300 {
		for to := max(s, 1); to < min(s+20, 300); to++ {
			rising.Steps = append(rising.Steps, api.Step{From: s, Letter: 7, To: to})
		}
		for to := range 300 {
			if s < 20 {
				dense.Steps = append(dense.Steps, api.Step{From: s, Letter: 7, To: to})
			}
		}
		dense.Good[s] = s >= 20
	}
	rising.Good[0] = true
	long := slices.Repeat([]int{7}, 4000)
	for i, a := range []api.Auto{rising, dense} {
		if got, e := word.Takes(a, lasso(long, long)); got || e != api.OK {
			t.Errorf("%d: %v %d", i, got, e)
		}
	}
	rising.Good[299] = true
	if got, e := word.Takes(rising, lasso(long, long)); !got || e != api.OK {
		t.Errorf("%v %d", got, e)
	}
}
