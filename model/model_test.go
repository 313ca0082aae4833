package model_test

import (
	"reflect"
	"strings"
	"testing"

	"lassowork/api"
	"lassowork/auto"
	"lassowork/formula"
	"lassowork/holds"
	"lassowork/model"
	"lassowork/word"
)

func parse(t *testing.T, text string) api.Formula {
	t.Helper()
	f, at, e := formula.Parse(text)
	if e != api.OK {
		t.Fatal(text, at, e)
	}
	return f
}

func isEmpty(l api.Lasso) bool { return len(l.Head)+len(l.Loop) == 0 }

// goesBy: does the model go by the word? It keeps all states in which the model can be, till they are the same again where Loop begins; since there are only so many ways at each place, one goes on without an end, if there is always one.
func goesBy(m api.Model, l api.Lasso) bool {
	here := map[int]bool{}
	for _, s := range m.First {
		here[s] = true
	}
	read := func(letters []int) {
		for _, letter := range letters {
			next := map[int]bool{}
			for s := range here {
				if m.Labels[s] == letter {
					for _, to := range m.Steps[s] {
						next[to] = true
					}
				}
			}
			here = next
		}
	}
	read(l.Head)
	for range 1 << len(m.Labels) {
		read(l.Loop)
	}
	return len(here) > 0
}

// check of Auto: its form, and what it takes of some words.
func checkAuto(t *testing.T, m api.Model, words []api.Lasso) (yes, no int) {
	t.Helper()
	a, e := model.Auto(m)
	if e != api.OK || auto.Check(a) != api.OK || a.Letters != 8 || a.States > len(m.Labels)+1 {
		t.Fatalf("%v: %v %d", m, a, e)
	}
	for _, l := range words {
		got, e := word.Takes(a, l)
		if want := goesBy(m, l); got != want || e != api.OK {
			t.Fatalf("%v: %v is taken: %v %d, want %v", m, l, got, e, want)
		}
		if got {
			yes++
		} else {
			no++
		}
	}
	return yes, no
}

// ask whether a formula holds: what is told, if it does not, is a word of the model of which it does not hold; if it does, nothing is told.
func ask(t *testing.T, m api.Model, f api.Formula) bool {
	t.Helper()
	ok, l, e := model.Holds(m, f)
	if e != api.OK || ok != isEmpty(l) {
		t.Fatalf("%v, %v: %v %v %d", m, f, ok, l, e)
	}
	if !ok {
		if is, e := holds.Holds(f, l); is || e != api.OK || !goesBy(m, l) {
			t.Fatalf("%v, %v: %v is told, it holds of it: %v %d, the model goes by it: %v", m, f, l, is, e, goesBy(m, l))
		}
	}
	return ok
}

// lamp: off, then on for a while or for ever, or off again.
func lamp() api.Model {
	return api.Model{Props: 1, Labels: []int{0, 1}, First: []int{0}, Steps: [][]int{{1}, {1, 0}}}
}

// fork: p0, and then p1 for ever or p2 for ever; it may begin with none of them as well, and then comes p0.
func fork() api.Model {
	return api.Model{Props: 3, Labels: []int{1, 2, 4, 0}, First: []int{3, 0, 3}, Steps: [][]int{{2, 1, 1}, {1}, {2, 2}, {0}}}
}

// still: one state for ever.
func still(props, label int) api.Model {
	return api.Model{Props: props, Labels: []int{label}, First: []int{0}, Steps: [][]int{{0}}}
}

// H1: errors, in their order: what is told first stands first, with all that are told later wrong as well.
func TestCheck(t *testing.T) {
	for _, c := range []struct {
		name string
		turn func(*api.Model)
		want api.Errno
	}{
		{"right", func(m *api.Model) {}, api.OK},
		{"no first", func(m *api.Model) { m.First = nil }, api.OK},
		{"most props", func(m *api.Model) { m.Props = 3 }, api.OK},
		{"no props, no bits", func(m *api.Model) { m.Props, m.Labels = 0, []int{0, 0, 0} }, api.OK},
		{"first twice, falling", func(m *api.Model) { m.First = []int{2, 1, 2, 0} }, api.OK},
		{"most states", func(m *api.Model) { *m = ring(12) }, api.OK},
		{"props below", func(m *api.Model) { m.Props = -1 }, api.ErrRange},
		{"props above", func(m *api.Model) { m.Props = 4 }, api.ErrRange},
		{"props above, many states", func(m *api.Model) { *m = ring(13); m.Props = 4 }, api.ErrRange},
		{"props above, no states", func(m *api.Model) { *m = api.Model{Props: 4} }, api.ErrRange},
		{"props far above", func(m *api.Model) { m.Props = 1 << 40 }, api.ErrRange},
		{"many states", func(m *api.Model) { *m = ring(13) }, api.ErrMany},
		{"many states, no rows", func(m *api.Model) { m.Labels, m.Steps = make([]int, 13), nil }, api.ErrMany},
		{"many states, a wrong label", func(m *api.Model) { *m = ring(13); m.Labels[0] = 9 }, api.ErrMany},
		{"many rows alone", func(m *api.Model) { m.Steps = ring(13).Steps }, api.ErrForm},
		{"no states", func(m *api.Model) { *m = api.Model{} }, api.ErrForm},
		{"no states, but rows", func(m *api.Model) { m.Labels = nil }, api.ErrForm},
		{"no states, a first", func(m *api.Model) { m.Labels, m.Steps = nil, nil }, api.ErrForm},
		{"no rows", func(m *api.Model) { m.Steps = nil }, api.ErrForm},
		{"a row less", func(m *api.Model) { m.Steps = m.Steps[:2] }, api.ErrForm},
		{"a row more", func(m *api.Model) { m.Steps = append(m.Steps, []int{0}) }, api.ErrForm},
		{"a row less, a wrong label", func(m *api.Model) { m.Steps, m.Labels[0] = m.Steps[:2], 4 }, api.ErrForm},
		{"label below", func(m *api.Model) { m.Labels[2] = -1 }, api.ErrRange},
		{"label above", func(m *api.Model) { m.Labels[2] = 4 }, api.ErrRange},
		{"label far above", func(m *api.Model) { m.Labels[2] = 1 << 40 }, api.ErrRange},
		{"label far below", func(m *api.Model) { m.Labels[2] = -1 << 63 }, api.ErrRange},
		{"label with no props", func(m *api.Model) { m.Props, m.Labels = 0, []int{0, 0, 1} }, api.ErrRange},
		{"label above, first none", func(m *api.Model) { m.Labels[2], m.First = 4, []int{9} }, api.ErrRange},
		{"label above, a state without steps", func(m *api.Model) { m.Labels[2], m.Steps[0] = 4, nil }, api.ErrRange},
		{"first below", func(m *api.Model) { m.First = []int{0, -1} }, api.ErrNone},
		{"first above", func(m *api.Model) { m.First = []int{0, 3} }, api.ErrNone},
		{"first above, a state without steps", func(m *api.Model) { m.First, m.Steps[0] = []int{3}, nil }, api.ErrNone},
		{"no steps of the first state", func(m *api.Model) { m.Steps[0] = nil }, api.ErrState},
		{"no steps of the last state", func(m *api.Model) { m.Steps[2] = []int{} }, api.ErrState},
		{"a step to none below", func(m *api.Model) { m.Steps[1] = []int{0, -1} }, api.ErrNone},
		{"a step to none above", func(m *api.Model) { m.Steps[1] = []int{0, 3} }, api.ErrNone},
		{"a step to none, then a state without steps", func(m *api.Model) { m.Steps[0], m.Steps[1] = []int{3}, nil }, api.ErrNone},
		{"a state without steps, then a step to none", func(m *api.Model) { m.Steps[0], m.Steps[1] = nil, []int{3} }, api.ErrState},
	} {
		m := api.Model{Props: 2, Labels: []int{0, 3, 2}, First: []int{0}, Steps: [][]int{{1, 2}, {0}, {2}}}
		c.turn(&m)
		if e := model.Check(m); e != c.want {
			t.Errorf("%s: %d, want %d", c.name, e, c.want)
		}
		a, e := model.Auto(m)
		if e != c.want || e != api.OK && (a.States != 0 || a.Letters != 0 || len(a.First)+len(a.Good)+len(a.Steps) > 0) {
			t.Errorf("%s: Auto: %v %d, want %d", c.name, a, e, c.want)
		}
		if ok, l, e := model.Holds(m, api.Formula{{Kind: api.True}}); e != c.want || ok != (e == api.OK) || !isEmpty(l) {
			t.Errorf("%s: Holds: %v %v %d, want %d", c.name, ok, l, e, c.want)
		}
		if s, e := model.Ask(m, "true"); e != c.want || (s == "holds\n") != (e == api.OK) || e != api.OK && s != "" {
			t.Errorf("%s: Ask: %q %d, want %d", c.name, s, e, c.want)
		}
		if c.want == api.OK {
			continue
		}
		if ok, l, e := model.Holds(m, nil); e != c.want || ok || !isEmpty(l) {
			t.Errorf("%s: Holds, no formula: %v %v %d, want %d", c.name, ok, l, e, c.want)
		}
		if s, e := model.Ask(m, "("); e != c.want || s != "" {
			t.Errorf("%s: Ask, no formula: %q %d, want %d", c.name, s, e, c.want)
		}
	}
}

// ring: each state leads to the next one, the last one to the first one, where p0 holds, and where it begins.
func ring(states int) api.Model {
	m := api.Model{Props: 1, First: []int{0}}
	for s := range states {
		m.Labels = append(m.Labels, 0)
		m.Steps = append(m.Steps, []int{(s + 1) % states})
	}
	m.Labels[0] = 1
	return m
}

// H2: what is taken, by words told one by one.
func TestAuto(t *testing.T) {
	for _, c := range []struct {
		name string
		m    api.Model
		l    api.Lasso
		want bool
	}{
		{"still", still(1, 1), api.Lasso{Loop: []int{1}}, true},
		{"still", still(1, 1), api.Lasso{Loop: []int{0}}, false},
		{"still", still(1, 1), api.Lasso{Head: []int{0}, Loop: []int{1}}, false},
		{"still", still(3, 1), api.Lasso{Loop: []int{1, 3}}, false},
		{"still, no props", still(0, 0), api.Lasso{Head: []int{0}, Loop: []int{0}}, true},
		{"lamp", lamp(), api.Lasso{Head: []int{0}, Loop: []int{1}}, true},
		{"lamp", lamp(), api.Lasso{Loop: []int{0, 1}}, true},
		{"lamp", lamp(), api.Lasso{Head: []int{0, 1, 1}, Loop: []int{0, 1, 1, 0, 1}}, true},
		{"lamp", lamp(), api.Lasso{Loop: []int{1}}, false},
		{"lamp", lamp(), api.Lasso{Loop: []int{0}}, false},
		{"lamp", lamp(), api.Lasso{Head: []int{0, 0}, Loop: []int{1}}, false},
		{"fork", fork(), api.Lasso{Head: []int{1}, Loop: []int{2}}, true},
		{"fork", fork(), api.Lasso{Head: []int{0, 1}, Loop: []int{4}}, true},
		{"fork", fork(), api.Lasso{Head: []int{1}, Loop: []int{2, 4}}, false},
		{"fork", fork(), api.Lasso{Head: []int{0}, Loop: []int{4}}, false},
		{"fork", fork(), api.Lasso{Loop: []int{2}}, false},
		{"ring", ring(3), api.Lasso{Loop: []int{1, 0, 0}}, true},
		{"ring", ring(3), api.Lasso{Loop: []int{1, 0}}, false},
		{"great ring", ring(12), api.Lasso{Loop: []int{1, 0, 0, 0, 0, 0, 0, 0, 0, 0, 0, 0}}, true},
		{"great ring", ring(12), api.Lasso{Loop: []int{1, 0, 0, 0, 0, 0, 0, 0, 0, 0, 0}}, false},
		{"no first", api.Model{Labels: []int{0}, Steps: [][]int{{0}}}, api.Lasso{Loop: []int{0}}, false},
	} {
		checkAuto(t, c.m, nil)
		a, _ := model.Auto(c.m)
		if got, e := word.Takes(a, c.l); got != c.want || e != api.OK {
			t.Errorf("%s: %v is taken: %v %d, want %v", c.name, c.l, got, e, c.want)
		}
	}
}

// H3, H4: what holds, told one by one.
func TestHolds(t *testing.T) {
	never := api.Model{Props: 3, Labels: []int{7}, Steps: [][]int{{0}}}
	for _, c := range []struct {
		name string
		m    api.Model
		yes  []string
		no   []string
	}{
		{"still", still(1, 1), []string{"true", "p0", "Xp0", "XXXXp0", "!p1", "(p2 R p0)", "(!true R p0)"}, []string{"!true", "!p0", "p1", "p2", "(p0 U p1)", "X!p0"}},
		{"still, no props", still(0, 0), []string{"true", "!p0", "(!true R !p2)"}, []string{"p0", "(true U p1)"}},
		{"lamp", lamp(), []string{"!p0", "Xp0", "(true U p0)", "(!true R (true U p0))", "(!true R (p0 | Xp0))"}, []string{"p0", "XXp0", "XX!p0", "(true U (!true R p0))", "(!true R (true U !p0))", "(!true R (!p0 | Xp0))"}},
		{"fork", fork(), []string{"(p0 | Xp0)", "(true U (p1 | p2))", "(true U (p0 & X(p1 | p2)))", "((true U p1) | (true U p2))", "((!true R !p1) | (!true R !p2))"}, []string{"p0", "Xp0", "(true U p1)", "(true U p2)", "(!true R !p1)", "(!true R !p2)"}},
		{"ring", ring(5), []string{"p0", "(!true R (true U p0))", "XXXX!p0", "(!true R (!p0 | XXX!p0))"}, []string{"XXXXp0", "(true U (!true R !p0))", "(!true R (p0 | Xp0))"}},
		{"no word at all", never, []string{"true", "!true", "p0", "!p0", "(p0 U p1)"}, nil},
	} {
		for _, want := range []bool{true, false} {
			texts, answer := c.no, "fails\n"
			if want {
				texts, answer = c.yes, "holds\n"
			}
			for _, text := range texts {
				if got := ask(t, c.m, parse(t, text)); got != want {
					t.Errorf("%s: %s: %v", c.name, text, got)
				}
				if got, e := model.Ask(c.m, text); got != answer || e != api.OK {
					t.Errorf("%s: %s: %q %d", c.name, text, got, e)
				}
			}
		}
	}
}

// H3: errors: those of formula.Check, then ErrMany of formula.Negate, of a model without words too.
func TestHoldsErrors(t *testing.T) {
	node := func(kind, a, b, n int) api.Node { return api.Node{Kind: kind, A: a, B: b, N: n} }
	until := api.Formula{node(api.Prop, 0, 0, 0), node(api.Until, 0, 0, 0), node(api.Until, 1, 1, 0), node(api.Until, 2, 2, 0)}
	for _, c := range []struct {
		name string
		f    api.Formula
		want api.Errno
	}{
		{"no nodes", nil, api.ErrForm},
		{"too many nodes", make(api.Formula, 13), api.ErrMany},
		{"no kind", api.Formula{{}}, api.ErrKind},
		{"no such part", api.Formula{node(api.Next, 0, 0, 0)}, api.ErrNone},
		{"no such proposition", api.Formula{node(api.Prop, 0, 0, 3)}, api.ErrRange},
		{"a number that must be 0", api.Formula{node(api.True, 0, 0, 1)}, api.ErrForm},
		{"its opposite has too many nodes", parse(t, "((((p0 & p1) & p2) & p0) & p1)"), api.ErrMany},
		{"its opposite has too many of the three kinds", until, api.ErrMany},
		{"its opposite has as many nodes as may be", parse(t, "X((p0 & p1) & (p2 & p0))"), api.OK},
	} {
		for _, m := range []api.Model{still(3, 0), {Labels: []int{0}, Steps: [][]int{{0}}}} {
			ok, l, e := model.Holds(m, c.f)
			if e != c.want || e != api.OK && (ok || !isEmpty(l)) {
				t.Errorf("%s: %v %v %d, want %d", c.name, ok, l, e, c.want)
			}
		}
	}
}

// H4: texts that are none of a formula, and one whose opposite is too great.
func TestAsk(t *testing.T) {
	great := "((((p0 & p1) & p2) & p0) & p1)"
	for _, c := range []struct {
		text, want string
		e          api.Errno
	}{
		{"p0", "holds\n", api.OK},
		{"!p0", "fails\n", api.OK},
		{"", "error 0\n", api.OK},
		{"p", "error 1\n", api.OK},
		{"p0 ", "error 2\n", api.OK},
		{" p0", "error 0\n", api.OK},
		{"p0\n", "error 2\n", api.OK},
		{"(p0 & p1", "error 8\n", api.OK},
		{"((p0 & p1) | X\x00", "error 14\n", api.OK},
		{"((p0 & p1) | (p0 U \xff", "error 19\n", api.OK},
		{"p3", "error 0\n", api.OK},
		{"XXXXXp0", "error 0\n", api.OK},
		{strings.Repeat("!", 12) + "p0", "error 0\n", api.OK},
		{strings.Repeat("!", 2000), "error 2000\n", api.OK},
		{strings.Repeat("!", 2001), "error 0\n", api.OK},
		{great, "", api.ErrMany},
		{great + " ", "error 30\n", api.OK},
	} {
		if got, e := model.Ask(still(1, 1), c.text); got != c.want || e != c.e {
			t.Errorf("%q: %q %d, want %q %d", c.text, got, e, c.want, c.e)
		}
	}
}

// P2, P3: what is handed in stays as it is and is not kept; an answer is new memory, and the same each time.
func TestMemory(t *testing.T) {
	spare := func() api.Model {
		m := fork()
		m.Labels = append(m.Labels, 9, 9, 9, 9)
		m.First = append(m.First, 8, 8, 8, 8)
		m.Steps = append(m.Steps, []int{7}, []int{7})
		for s := range m.Steps {
			m.Steps[s] = append(m.Steps[s], 6, 6, 6, 6)
		}
		return m
	}
	cut := func(m api.Model) api.Model {
		m.Labels, m.First = m.Labels[:4], m.First[:3]
		rows := make([][]int, 0, len(m.Steps))
		for s, row := range fork().Steps {
			rows = append(rows, m.Steps[s][:len(row)])
		}
		m.Steps = rows
		return m
	}
	text := "(true U (p0 & Xp1))"
	whole, f := spare(), append(parse(t, text), api.Node{Kind: 9})
	m := cut(whole)
	a, _ := model.Auto(m)
	_, l, _ := model.Holds(m, f[:len(f)-1])
	model.Ask(m, text)
	if !reflect.DeepEqual(whole, spare()) || !reflect.DeepEqual(f, append(parse(t, text), api.Node{Kind: 9})) {
		t.Error("what was handed in has changed", whole, f)
	}
	clear(f)
	clear(whole.Labels)
	clear(whole.First)
	for _, row := range whole.Steps {
		clear(row)
	}
	sameA, _ := model.Auto(fork())
	_, sameL, _ := model.Holds(fork(), parse(t, text))
	if !reflect.DeepEqual(a, sameA) || !reflect.DeepEqual(l, sameL) || isEmpty(l) {
		t.Errorf("%v %v, and then %v %v", a, l, sameA, sameL)
	}
	clear(a.First)
	clear(a.Good)
	clear(a.Steps)
	l.Head = append(l.Head[:0], 5, 5, 5, 5)
	l.Loop = append(l.Loop[:0], 6, 6, 6, 6)
	if !reflect.DeepEqual(l, api.Lasso{Head: []int{5, 5, 5, 5}, Loop: []int{6, 6, 6, 6}}) {
		t.Error("lists of an answer share memory", l)
	}
	if third, _ := model.Auto(fork()); !reflect.DeepEqual(third, sameA) {
		t.Error("an answer is not the caller's", third)
	}
}
