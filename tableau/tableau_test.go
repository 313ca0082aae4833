package tableau_test

import (
	"reflect"
	"slices"
	"testing"

	"lassowork/api"
	"lassowork/auto"
	"lassowork/formula"
	"lassowork/holds"
	"lassowork/tableau"
	"lassowork/word"
)

func node(kind, a, b, n int) api.Node { return api.Node{Kind: kind, A: a, B: b, N: n} }

func lasso(head, loop []int) api.Lasso { return api.Lasso{Head: head, Loop: loop} }

func parse(t *testing.T, text string) api.Formula {
	t.Helper()
	f, at, e := formula.Parse(text)
	if e != api.OK {
		t.Fatal(text, at, e)
	}
	return f
}

// translate a formula that is right: what comes out keeps to its limits.
func translate(t *testing.T, f api.Formula) api.Auto {
	t.Helper()
	a, e := tableau.Translate(f)
	if e != api.OK || auto.Check(a) != api.OK || a.Letters != 8 || a.States > api.MaxStates || len(a.Steps) > api.MaxSteps {
		t.Fatalf("%v: %d, Check %d, %d letters, %d states, %d steps", f, e, auto.Check(a), a.Letters, a.States, len(a.Steps))
	}
	return a
}

// E1: what is taken, by words told one by one.
func TestTranslate(t *testing.T) {
	always := func(letter int) api.Lasso { return lasso(nil, []int{letter}) }
	for _, c := range []struct {
		text string
		l    api.Lasso
		want bool
	}{
		{"true", always(0), true}, {"true", lasso([]int{7}, []int{3, 4}), true}, {"!true", always(0), false}, {"!true", always(7), false},
		{"p2", lasso([]int{4}, []int{0}), true}, {"p2", lasso([]int{3}, []int{4}), false}, {"!p2", lasso([]int{3}, []int{4}), true},
		{"(p0 U p1)", lasso([]int{1, 2}, []int{0}), true}, {"(p0 U p1)", always(1), false}, {"(p0 U p1)", always(2), true}, {"(p0 U p1)", lasso([]int{1, 0, 2}, []int{2}), false},
		{"!(p0 U p1)", lasso([]int{1, 2}, []int{0}), false}, {"!(p0 U p1)", always(1), true}, {"!(p0 U p1)", lasso([]int{1, 0}, []int{2}), true},
		{"(p0 R p1)", always(2), true}, {"(p0 R p1)", lasso([]int{2, 3}, []int{0}), true}, {"(p0 R p1)", lasso([]int{2, 1}, []int{0}), false}, {"(p0 R p1)", always(1), false},
		{"!(p0 R p1)", always(2), false}, {"!(p0 R p1)", lasso([]int{2, 3}, []int{0}), false}, {"!(p0 R p1)", lasso([]int{2, 1}, []int{2}), true},
		{"!(!true R p0)", always(1), false}, {"!(!true R p0)", lasso([]int{1, 1, 0}, []int{1}), true}, {"!(!true R p0)", lasso([]int{1}, []int{1, 1, 0}), true},
		{"Xp0", lasso([]int{0, 1}, []int{0}), true}, {"Xp0", lasso([]int{1}, []int{0}), false}, {"!Xp0", lasso([]int{1}, []int{0}), true}, {"XXXXp1", lasso([]int{0, 0, 0, 0, 2}, []int{0}), true}, {"XXXXp1", lasso([]int{2, 2, 2, 2, 0}, []int{2}), false},
		{"(!true R (true U p0))", lasso(nil, []int{0, 0, 1}), true}, {"(!true R (true U p0))", lasso([]int{1, 1}, []int{6}), false},
		{"(true U (!true R p0))", lasso([]int{0, 6}, []int{1, 7}), true}, {"(true U (!true R p0))", lasso(nil, []int{1, 1, 0}), false},
		{"((true U p0) & (true U p1))", lasso([]int{0, 2, 0}, []int{0, 1}), true}, {"((true U p0) & (true U p1))", lasso([]int{0, 2, 0}, []int{0, 2}), false}, {"((true U p0) & (true U p1))", lasso([]int{0, 1, 0}, []int{0, 1}), false},
		{"(X!p0 | X!!p0)", always(1), true}, {"(Xp0 & !Xp0)", always(1), false}, {"((p0 U p1) U (p1 U p2))", lasso([]int{1, 2, 1, 2}, []int{4}), true}, {"((p0 U p1) U (p1 U p2))", lasso([]int{1, 2, 1, 0}, []int{4}), false},
	} {
		f := parse(t, c.text)
		got, e := word.Takes(translate(t, f), c.l)
		if got != c.want || e != api.OK {
			t.Errorf("%s: %v is taken: %v %d, want %v", c.text, c.l, got, e, c.want)
		}
	}
}

// E1: errors: those of formula.Check, and nothing else with them.
func TestErrors(t *testing.T) {
	chain := api.Formula{node(api.True, 0, 0, 0)}
	for at := range 5 {
		chain = append(chain, node(api.Next, at, 0, 0))
	}
	for _, c := range []struct {
		name string
		f    api.Formula
		want api.Errno
	}{
		{"no nodes", nil, api.ErrForm},
		{"empty", api.Formula{}, api.ErrForm},
		{"too many nodes", make(api.Formula, 13), api.ErrMany},
		{"too many of the three kinds", chain, api.ErrMany},
		{"no kind", api.Formula{{}}, api.ErrKind},
		{"no such kind", api.Formula{node(9, 0, 0, 0)}, api.ErrKind},
		{"no such part", api.Formula{node(api.Next, 0, 0, 0)}, api.ErrNone},
		{"no such part below 0", api.Formula{node(api.True, 0, 0, 0), node(api.Until, 0, -1, 0)}, api.ErrNone},
		{"no such proposition", api.Formula{node(api.Prop, 0, 0, 3)}, api.ErrRange},
		{"a number that must be 0", api.Formula{node(api.True, 0, 0, 1)}, api.ErrForm},
		{"behind one that is right", api.Formula{node(api.True, 0, 0, 0), node(api.Not, 0, 1, 0)}, api.ErrForm},
	} {
		a, e := tableau.Translate(c.f)
		if e != c.want || a.States != 0 || a.Letters != 0 || len(a.First)+len(a.Good)+len(a.Steps) != 0 {
			t.Errorf("%s: %v %d, want %d", c.name, a, e, c.want)
		}
	}
}

// P2, P3: what is handed in stays as it is and is not kept; an answer is the caller's, and the same each time.
func TestMemory(t *testing.T) {
	fresh := func() api.Formula {
		return append(parse(t, "(p0 U X(p1 R p2))"), node(9, 9, 9, 9))
	}
	whole := fresh()
	f := whole[:len(whole)-1]
	got := translate(t, f)
	if !slices.Equal(whole, fresh()) {
		t.Error("what was handed in has changed", whole)
	}
	clear(whole)
	again := translate(t, parse(t, "(p0 U X(p1 R p2))"))
	if !reflect.DeepEqual(got, again) {
		t.Errorf("%v, and then %v", got, again)
	}
	clear(got.First)
	clear(got.Good)
	clear(got.Steps)
	if third := translate(t, parse(t, "(p0 U X(p1 R p2))")); !reflect.DeepEqual(again, third) {
		t.Error("an answer is not the caller's", third)
	}
}

// draw: numbers that look like drawn ones, the same each time.
type draw uint64

func (d *draw) n(n int) int {
	*d = *d*6364136223846793005 + 1442695040888963407
	return int(uint64(*d) >> 33 % uint64(n))
}

// formula of that many nodes, as many of the three kinds as may be tried, made of nodes near its end, so that most are parts of it.
func (d *draw) formula(count int) api.Formula {
	f := api.Formula{node(api.Prop, 0, 0, d.n(3))}
	for temporal := 0; len(f) < count; {
		kind := 2 + d.n(7)
		near := func() int { return len(f) - 1 - d.n(min(4, len(f))) }
		n := node(kind, near(), near(), 0)
		switch kind {
		case api.Prop:
			n = node(kind, 0, 0, d.n(3))
		case api.Not, api.Next:
			n.B = 0
		}
		if kind >= api.Next {
			if temporal == api.MaxTemporal {
				continue
			}
			temporal++
		}
		f = append(f, n)
	}
	return f
}

func (d *draw) lasso(letters int) api.Lasso {
	list := func(count int) []int {
		var all []int
		for range count {
			all = append(all, d.n(letters))
		}
		return all
	}
	return lasso(list(d.n(4)), list(1+d.n(4)))
}

// lists of that many letters below 4.
func lists(count int) [][]int {
	all := [][]int{nil}
	for range count {
		var longer [][]int
		for _, l := range all {
			for letter := range 4 {
				longer = append(longer, append(slices.Clone(l), letter))
			}
		}
		all = longer
	}
	return all
}

// lassos with at most that many letters in Head, and in Loop.
func lassos(head, loop int) []api.Lasso {
	var all []api.Lasso
	for h := range head + 1 {
		for n := 1; n <= loop; n++ {
			for _, begin := range lists(h) {
				for _, again := range lists(n) {
					all = append(all, lasso(begin, again))
				}
			}
		}
	}
	return all
}

// small: all formulas of three nodes, with two propositions, or true.
func small() []api.Formula {
	all := []api.Formula{nil}
	for ahead := range 3 {
		may := []api.Node{node(api.True, 0, 0, 0), node(api.Prop, 0, 0, 0), node(api.Prop, 0, 0, 1)}
		for a := range ahead {
			may = append(may, node(api.Not, a, 0, 0), node(api.Next, a, 0, 0))
			for b := range ahead {
				for _, kind := range []int{api.And, api.Or, api.Until, api.Release} {
					may = append(may, node(kind, a, b, 0))
				}
			}
		}
		var longer []api.Formula
		for _, f := range all {
			for _, n := range may {
				longer = append(longer, append(slices.Clone(f), n))
			}
		}
		all = longer
	}
	return all
}

// asItHolds: a word is taken just if the formula holds of it; it tells whether it does.
func asItHolds(t *testing.T, f api.Formula, a api.Auto, l api.Lasso) bool {
	t.Helper()
	want, e1 := holds.Holds(f, l)
	got, e2 := word.Takes(a, l)
	if got != want || e1 != api.OK || e2 != api.OK {
		t.Fatalf("%v: %v is taken: %v %d, want %v %d", f, l, got, e2, want, e1)
	}
	return want
}

// E1, E2: all small formulas and words.
func TestSmall(t *testing.T) {
	words := lassos(1, 2)
	for _, f := range small() {
		a := translate(t, f)
		for _, l := range words {
			asItHolds(t, f, a, l)
		}
	}
}

// E1, E2: drawn formulas of as many nodes as may be; parts may stand in several others, or in none.
func TestDrawn(t *testing.T) {
	d := draw(5)
	yes, no := 0, 0
	for round := range 3000 {
		f := d.formula(1 + round%api.MaxNodes)
		a := translate(t, f)
		for range 12 {
			if asItHolds(t, f, a, d.lasso(2+d.n(7))) {
				yes++
			} else {
				no++
			}
		}
	}
	if yes < 5000 || no < 5000 {
		t.Errorf("%d hold, %d do not: that tells little", yes, no)
	}
}

// E1: as many of the three kinds as may be, in each order, inside one another and beside one another.
func TestGreatest(t *testing.T) {
	d := draw(6)
	for choice := range 81 {
		f := api.Formula{node(api.Prop, 0, 0, 0), node(api.Prop, 0, 0, 1), node(api.Prop, 0, 0, 2)}
		g := slices.Clone(f)
		for at := range 4 {
			kind := api.Next + choice%3
			choice /= 3
			inner, beside := node(kind, at%3, len(f)-1, 0), node(kind, at%3, (at+1)%3, 0)
			if kind == api.Next {
				inner, beside = node(kind, len(f)-1, 0, 0), node(kind, at%3, 0, 0)
			}
			f, g = append(f, inner), append(g, beside)
		}
		g = append(g, node(api.And, 3, 4, 0), node(api.Not, 7, 0, 0), node(api.Or, 5, 8, 0), node(api.Not, 6, 0, 0), node(api.And, 9, 10, 0))
		for _, f := range []api.Formula{f, g} {
			a := translate(t, f)
			for range 40 {
				asItHolds(t, f, a, d.lasso(8))
			}
		}
	}
}
