package model_test

import (
	"slices"
	"testing"

	"lassowork/api"
	"lassowork/both"
	"lassowork/formula"
	"lassowork/holds"
	"lassowork/model"
	"lassowork/tableau"
)

// draw: numbers that look like drawn ones, the same each time.
type draw uint64

func (d *draw) n(n int) int {
	*d = *d*6364136223846793005 + 1442695040888963407
	return int(uint64(*d) >> 33 % uint64(n))
}

// list of at least so many numbers below most, in any order, and some of them twice.
func (d *draw) list(least, most int) []int {
	var all []int
	for range least + d.n(4) {
		all = append(all, d.n(most))
	}
	return all
}

func (d *draw) model(states int) api.Model {
	m := api.Model{Props: d.n(4), First: d.list(0, states)}
	for range states {
		m.Labels = append(m.Labels, d.n(1<<m.Props))
		m.Steps = append(m.Steps, d.list(1, states))
	}
	return m
}

// formula of at most 9 nodes whose opposite is not too great.
func (d *draw) formula() api.Formula {
	for {
		f := api.Formula{{Kind: api.Prop, N: d.n(3)}}
		for range d.n(9) {
			last := len(f) - 1
			n := api.Node{Kind: 1 + d.n(8), A: last - d.n(min(3, len(f))), B: last - d.n(min(3, len(f)))}
			switch n.Kind {
			case api.True:
				n = api.Node{Kind: api.True}
			case api.Prop:
				n = api.Node{Kind: api.Prop, N: d.n(3)}
			case api.Not, api.Next:
				n.B = 0
			}
			f = append(f, n)
		}
		if _, e := formula.Negate(f); e == api.OK {
			return f
		}
	}
}

// words of a model: all ways of at most so many states, the last of which leads back to one of them.
func words(m api.Model, most int) []api.Lasso {
	var all []api.Lasso
	var on func(way []int)
	on = func(way []int) {
		for _, to := range m.Steps[way[len(way)-1]] {
			for at, s := range way {
				if s == to {
					all = append(all, api.Lasso{Head: labels(m, way[:at]), Loop: labels(m, way[at:])})
				}
			}
			if len(way) < most {
				on(append(slices.Clone(way), to))
			}
		}
	}
	for _, s := range m.First {
		on([]int{s})
	}
	return all
}

func labels(m api.Model, way []int) []int {
	var all []int
	for _, s := range way {
		all = append(all, m.Labels[s])
	}
	return all
}

// H2: drawn models: what is taken, of their own words and of drawn ones.
func TestAutoDrawn(t *testing.T) {
	d := draw(31)
	yes, no := 0, 0
	for range 600 {
		m := d.model(1 + d.n(5))
		var some []api.Lasso
		for range 10 {
			some = append(some, api.Lasso{Head: d.list(0, 1<<m.Props), Loop: d.list(1, 1<<m.Props)})
		}
		if own := words(m, 4); len(own) > 0 {
			for range 10 {
				l := own[d.n(len(own))]
				turned := api.Lasso{Head: l.Head, Loop: slices.Clone(l.Loop)}
				turned.Loop[d.n(len(l.Loop))] ^= d.n(8)
				some = append(some, l, turned)
			}
		}
		y, n := checkAuto(t, m, some)
		yes, no = yes+y, no+n
	}
	if yes < 4000 || no < 4000 {
		t.Errorf("%d are taken, %d are not: that tells little", yes, no)
	}
}

// H3: drawn models and formulas: if one holds, it does of each short word; and it does just if nothing is taken by the automata of the model and of the formula with a Not ahead.
func TestHoldsDrawn(t *testing.T) {
	d := draw(32)
	yes, no, asked := 0, 0, 0
	for range 4000 {
		m, f := d.model(1+d.n(4)), d.formula()
		got := ask(t, m, f)
		if got {
			yes++
			for _, l := range words(m, 4) {
				if is, e := holds.Holds(f, l); !is || e != api.OK {
					t.Fatalf("%v, %v: of %v: %v %d", m, f, l, is, e)
				}
			}
		} else {
			no++
		}
		a, _ := model.Auto(m)
		b, e := tableau.Translate(append(slices.Clone(f), api.Node{Kind: api.Not, A: len(f) - 1}))
		if e != api.OK {
			t.Fatal(f, e)
		}
		if x, e := both.Both(a, b); e == api.OK {
			asked++
			if l, fails, e := both.Some(x); fails == got || e != api.OK {
				t.Fatalf("%v, %v: %v, but of %v it does not: %v %d", m, f, got, l, fails, e)
			}
		}
	}
	if yes < 700 || no < 1500 || asked < 2500 {
		t.Errorf("%d hold, %d do not, %d asked another way: that tells little", yes, no, asked)
	}
}

// full: as many states as may be, each leads to all, and each choice of propositions has one.
func full() api.Model {
	m := api.Model{Props: 3}
	for s := range api.MaxModel {
		m.Labels = append(m.Labels, s%8)
		m.First = append(m.First, s)
	}
	for range api.MaxModel {
		m.Steps = append(m.Steps, slices.Clone(m.First))
	}
	return m
}

// H3: as many states as may be, and as many of the three kinds: more pairs than an automaton may have states, but none is refused.
func TestGreatest(t *testing.T) {
	always2 := full()
	for s := range always2.Labels {
		always2.Labels[s] |= 4
	}
	for _, c := range []struct {
		text            string
		all, withAlways bool // of a model that does all that can be; of one in which p2 always holds
	}{
		{"((p0 U !p1) U (!p1 R (p2 U !p0)))", false, false},
		{"((p0 R !p1) R (!p1 U (p2 R !p0)))", false, false},
		{"((!p0 U p1) R (!p1 U (!p0 U p2)))", false, true},
		{"((!p0 R p1) U (!p1 R (!p0 U p2)))", false, true},
		{"(p0 U (p1 R X(p2 U p0)))", false, false},
		{"(X(p0 U p1) | X(!p0 R !p1))", true, true},
		{"XX((p0 U p1) | (!p0 R !p1))", true, true},
		{"XX((p0 U p1) | (!p0 R p1))", false, false},
		{"XXXXp2", false, true},
	} {
		f := parse(t, c.text)
		if got := ask(t, full(), f); got != c.all {
			t.Errorf("%s: %v", c.text, got)
		}
		if got := ask(t, always2, f); got != c.withAlways {
			t.Errorf("%s: if p2 always holds: %v", c.text, got)
		}
	}
}
