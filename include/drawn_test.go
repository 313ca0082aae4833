package include_test

import (
	"iter"
	"slices"
	"testing"

	"lassowork/api"
	"lassowork/auto"
	"lassowork/both"
	"lassowork/find"
	"lassowork/nodes"
	"lassowork/pairs"
)

// draw: numbers that look like drawn ones, the same each time.
type draw uint64

func (d *draw) n(n int) int {
	*d = *d*6364136223846793005 + 1442695040888963407
	return int(uint64(*d) >> 33 % uint64(n))
}

// auto that is right; a step is in it with 1 chance in rare.
func (d *draw) auto(states, letters, rare int) api.Auto {
	a := api.Auto{States: states, Letters: letters}
	for s := range states {
		if d.n(2) == 0 {
			a.First = append(a.First, s)
		}
		a.Good = append(a.Good, d.n(2) == 0)
		for l := range letters {
			for to := range states {
				if d.n(rare) == 0 {
					a.Steps = append(a.Steps, api.Step{From: s, Letter: l, To: to})
				}
			}
		}
	}
	return a
}

// lassos with at most that many letters, 0 and 1, in Head, and in Loop.
func lassos(head, loop int) []api.Lasso {
	list := func(count, digits int) []int {
		var all []int
		for at := range count {
			all = append(all, digits>>at&1)
		}
		return all
	}
	var all []api.Lasso
	for h := range head + 1 {
		for n := 1; n <= loop; n++ {
			for digits := range 1 << (h + n) {
				all = append(all, api.Lasso{Head: list(h, digits), Loop: list(n, digits>>h)})
			}
		}
	}
	return all
}

// one has all automata of one state and two letters.
func one() []api.Auto {
	var all []api.Auto
	for choice := range 16 {
		a := api.Auto{States: 1, Letters: 2, Good: []bool{choice&1 != 0}}
		if choice&2 != 0 {
			a.First = []int{0}
		}
		for letter := range 2 {
			if choice>>(2+letter)&1 != 0 {
				a.Steps = append(a.Steps, api.Step{Letter: letter})
			}
		}
		all = append(all, a)
	}
	return all
}

// G1, G2: all of one state against each other: what is taken hangs on the steps alone, if it begins and is good.
func TestOneState(t *testing.T) {
	words := lassos(1, 2)
	for _, a := range one() {
		for _, b := range one() {
			want := true
			for _, l := range words {
				want = want && (!takes(t, a, l) || takes(t, b, l))
			}
			if got := included(t, a, b); got != want {
				t.Errorf("%v in %v: %v", a, b, got)
			}
		}
	}
}

// G1, G2: drawn automata of as many states as may be: if one is in the other one, no short word is taken by it alone; they are the same just if each is in the other one.
func TestDrawn(t *testing.T) {
	d := draw(21)
	words := lassos(3, 4)
	yes, no, alike := 0, 0, 0
	for range 1500 {
		a := d.auto(1+d.n(3), 2, 2+d.n(3))
		b := d.auto(1+d.n(3), 2, 1+d.n(3))
		in, out := included(t, a, b), included(t, b, a)
		if same(t, a, b) != (in && out) {
			t.Fatalf("%v, %v: in %v, out %v, but not the same, or the other way", a, b, in, out)
		}
		if in && out {
			alike++
		}
		if !in {
			no++
			continue
		}
		yes++
		for range 60 {
			l := words[d.n(len(words))]
			if takes(t, a, l) && !takes(t, b, l) {
				t.Fatalf("%v in %v: %v is taken by a alone", a, b, l)
			}
		}
	}
	if yes < 300 || no < 300 || alike < 100 {
		t.Errorf("%d are in the other one, %d are not, %d are the same: that tells little", yes, no, alike)
	}
}

// G2: what both take is in each of them, and each is in what one of both takes; what is trimmed is the same.
func TestBothEither(t *testing.T) {
	d := draw(22)
	count := 0
	for range 3000 {
		a := d.auto(1+d.n(2), 2, 1+d.n(3))
		b := d.auto(1, 2, 1+d.n(3))
		x, e1 := both.Both(a, b)
		y, e2 := both.Either(a, b)
		z, e3 := auto.Trim(a)
		if e1 != api.OK || e2 != api.OK || e3 != api.OK {
			t.Fatal(a, b, e1, e2, e3)
		}
		if !included(t, a, y) || !included(t, b, y) || !same(t, a, z) {
			t.Fatalf("%v, %v; either %v, trimmed %v", a, b, y, z)
		}
		if x.States <= api.MaxInclude {
			count++
			if !included(t, x, a) || !included(t, x, b) || included(t, a, b) != same(t, x, a) || included(t, b, a) != same(t, y, a) {
				t.Fatalf("%v, %v; both %v, either %v", a, b, x, y)
			}
		}
	}
	if count < 500 {
		t.Errorf("%d: that tells little", count)
	}
}

// ranks of an automaton's states after a word, or -1, where the word does not lead; and of which it is still asked that their ranks fall.
type ranks struct {
	of  [3]int
	ask [3]bool
}

// opposite of an automaton of at most three states, by ranks: it takes just the words that the automaton does not. A way's ranks never rise, and are even at good states; if each way's become odd at last, none comes to good states without an end. It knows nothing of boxes.
func opposite(b api.Auto) api.Auto {
	most := 0
	for _, good := range b.Good {
		if !good {
			most += 2
		}
	}
	begin := ranks{of: [3]int{-1, -1, -1}}
	for _, s := range b.First {
		begin.of[s] = most
	}
	good := func(r ranks) bool { return r.ask == [3]bool{} }
	return nodes.Auto(b.Letters, []ranks{begin}, good, func(r ranks) iter.Seq2[int, ranks] {
		return func(yield func(int, ranks) bool) {
			for letter := range b.Letters {
				for _, next := range after(b, r, letter) {
					if !yield(letter, next) {
						return
					}
				}
			}
		}
	})
}

// after a letter: all ranks that may be.
func after(b api.Auto, r ranks, letter int) []ranks {
	highest := [3]int{-1, -1, -1}
	var asked [3]bool
	for _, s := range b.Steps {
		if s.Letter != letter || r.of[s.From] < 0 {
			continue
		}
		if highest[s.To] < 0 || highest[s.To] > r.of[s.From] {
			highest[s.To] = r.of[s.From]
		}
		asked[s.To] = asked[s.To] || r.ask[s.From]
	}
	all := []ranks{{of: highest}}
	for s := range b.States {
		var more []ranks
		for _, x := range all {
			for rank := min(highest[s], 0); rank <= highest[s]; rank++ {
				if rank > 0 && rank%2 == 1 && b.Good[s] {
					continue
				}
				x.of[s] = rank
				x.ask[s] = rank >= 0 && rank%2 == 0 && (asked[s] || r.ask == [3]bool{})
				more = append(more, x)
			}
		}
		all = more
	}
	return all
}

// G1, G2: drawn automata against the opposite of the other one: nothing is taken by both of them just if it is in the other one.
func TestOpposite(t *testing.T) {
	d := draw(23)
	count := [2][4]int{}
	for round := range 1500 {
		b := d.auto(1+round%3, 2, 1+d.n(4))
		if b.States == 3 && slices.Index(b.Good, true) < 0 {
			b.Good[d.n(3)] = true // without a good one there are many ranks
		}
		other := opposite(b)
		for range 2 {
			a := d.auto(1+d.n(3), 2, 2+d.n(3))
			l, alone := find.Word(pairs.Auto(a, other))
			if got := included(t, a, b); got == alone {
				t.Fatalf("%v in %v: %v, but of %v: %v", a, b, got, l, alone)
			}
			if alone {
				count[0][b.States]++
			} else {
				count[1][b.States]++
			}
		}
	}
	for states := 1; states <= 3; states++ {
		if count[0][states] < 100 || count[1][states] < 100 {
			t.Errorf("%v: that tells little", count)
		}
	}
}
