package model_test

// The rows of the document's section 'What the whole promises', one test each, and its examples: here, since a model needs all the other layers.

import (
	"reflect"
	"slices"
	"testing"

	"lassowork/api"
	"lassowork/auto"
	"lassowork/both"
	"lassowork/formula"
	"lassowork/holds"
	"lassowork/include"
	"lassowork/model"
	"lassowork/tableau"
	"lassowork/word"
)

func (d *draw) lasso(letters int) api.Lasso {
	return api.Lasso{Head: d.list(0, letters), Loop: d.list(1, letters)}
}

func (d *draw) auto(states, letters int) api.Auto {
	a := api.Auto{States: states, Letters: letters}
	rare := 1 + d.n(3)
	for s := range states {
		if d.n(2) == 0 {
			a.First = append(a.First, s)
		}
		a.Good = append(a.Good, d.n(2) == 0)
		for l := range letters {
			for to := range states {
				if d.n(rare) == 0 {
					a.Steps = append(a.Steps, api.Step{From: s, Letter: l, To: to})
				}
			}
		}
	}
	return a
}

// way of a model, of so many states; its word, if the last one leads back to one that was met, or false.
func (d *draw) way(m api.Model, count int) (api.Lasso, bool) {
	if len(m.First) == 0 {
		return api.Lasso{}, false
	}
	one := func(of []int) int { return of[d.n(len(of))] }
	way := []int{one(m.First)}
	for len(way) < count {
		way = append(way, one(m.Steps[way[len(way)-1]]))
	}
	back := slices.Index(way, one(m.Steps[way[count-1]]))
	if back < 0 {
		return api.Lasso{}, false
	}
	return api.Lasso{Head: labels(m, way[:back]), Loop: labels(m, way[back:])}, true
}

// turned: a text with one byte put in, taken out, or made another one.
func (d *draw) turned(text string, signs string) string {
	at := d.n(len(text))
	sign := signs[d.n(len(signs)):][:1]
	switch d.n(3) {
	case 0:
		return text[:at] + sign + text[at:]
	case 1:
		return text[:at] + text[at+1:]
	}
	return text[:at] + sign + text[at+1:]
}

// right: no call may answer an error.
func right(t *testing.T, errors ...api.Errno) {
	t.Helper()
	for at, e := range errors {
		if e != api.OK {
			t.Fatalf("call %d: %d", at, e)
		}
	}
}

// told: if one of the answers is hardly ever given, the test tells little.
func told(t *testing.T, counts ...int) {
	t.Helper()
	for _, n := range counts {
		if n < 100 {
			t.Errorf("%v: that tells little", counts)
		}
	}
}

func takes(t *testing.T, a api.Auto, l api.Lasso) bool {
	t.Helper()
	ok, e := word.Takes(a, l)
	right(t, e)
	return ok
}

func holdsOf(t *testing.T, f api.Formula, l api.Lasso) bool {
	t.Helper()
	ok, e := holds.Holds(f, l)
	right(t, e)
	return ok
}

// What is printed is parsed as it was, and nothing else is: of automata.
func TestWholeAutoTexts(t *testing.T) {
	d := draw(41)
	yes, no := 0, 0
	for range 3000 {
		a := d.auto(1+d.n(4), 1+d.n(3))
		text, e1 := auto.Print(a)
		b, _, e2 := auto.Parse(text)
		right(t, e1, e2)
		if b.States != a.States || b.Letters != a.Letters || !slices.Equal(a.First, b.First) || !slices.Equal(a.Good, b.Good) || !slices.Equal(a.Steps, b.Steps) {
			t.Fatalf("%v is printed as %q and parsed as %v", a, text, b)
		}
		other := d.turned(text, "00112 \n")
		c, _, e := auto.Parse(other)
		if e != api.OK {
			no++
			continue
		}
		yes++
		if again, e := auto.Print(c); again != other || e != api.OK {
			t.Fatalf("%q is parsed as %v and printed as %q", other, c, again)
		}
	}
	told(t, yes, no)
}

// What is printed is parsed as it was, and nothing else is: of formulas.
func TestWholeFormulaTexts(t *testing.T) {
	d := draw(42)
	yes, no := 0, 0
	for range 5000 {
		f := d.formula()
		text, e := formula.Print(f)
		right(t, e)
		g, _, e := formula.Parse(text)
		if e == api.ErrMany { // a part that stands in several others is printed, and parsed, for each of them
			continue
		}
		again, e2 := formula.Print(g)
		right(t, e, e2)
		if again != text {
			t.Fatalf("%v is printed as %q, and parsed as %v", f, text, g)
		}
		other := d.turned(text, "!X()&|URtruep0123 ")
		h, _, e := formula.Parse(other)
		if e != api.OK {
			no++
			continue
		}
		yes++
		if again, e := formula.Print(h); again != other || e != api.OK {
			t.Fatalf("%q is parsed as %v and printed as %q", other, h, again)
		}
	}
	told(t, yes, no)
}

// An automaton takes a lasso just if it takes its least.
func TestWholeLeast(t *testing.T) {
	d := draw(43)
	yes, no := 0, 0
	for range 3000 {
		a, l := d.auto(1+d.n(4), 2), d.lasso(2)
		for range d.n(3) {
			l.Loop = append(l.Loop, l.Loop...)
		}
		least, e := word.Least(l, 2)
		right(t, e)
		got, want := takes(t, a, least), takes(t, a, l)
		if got != want {
			t.Fatalf("%v: of %v %v, of %v %v", a, l, want, least, got)
		}
		if got {
			yes++
		} else {
			no++
		}
	}
	told(t, yes, no)
}

// A formula holds just where its opposite does not; its automaton takes a word just if it holds of it.
func TestWholeFormulas(t *testing.T) {
	d := draw(44)
	yes, no := 0, 0
	for range 2000 {
		f := d.formula()
		g, e1 := formula.Negate(f)
		a, e2 := tableau.Translate(f)
		b, e3 := tableau.Translate(g)
		right(t, e1, e2, e3)
		for range 5 {
			l := d.lasso(8)
			x, e1 := holds.Table(f, l)
			y, e2 := holds.Table(g, l)
			right(t, e1, e2)
			for place, is := range x[len(f)-1] {
				if y[len(g)-1][place] == is {
					t.Fatalf("%v, and its opposite %v, of %v at %d: %v", f, g, l, place, is)
				}
			}
			want := holdsOf(t, f, l)
			if takes(t, a, l) != want || takes(t, b, l) == want {
				t.Fatalf("%v, and its opposite %v, of %v: it holds: %v", f, g, l, want)
			}
			if want {
				yes++
			} else {
				no++
			}
		}
	}
	told(t, yes, no)
}

// What is told to be taken is; if nothing is, no word is taken.
func TestWholeSome(t *testing.T) {
	d := draw(45)
	yes, no := 0, 0
	for range 2000 {
		a := d.auto(1+d.n(4), 2)
		l, ok, e := both.Some(a)
		right(t, e)
		if ok {
			yes++
			if !takes(t, a, l) {
				t.Fatalf("%v: %v is told", a, l)
			}
			continue
		}
		no++
		for range 20 {
			if l := d.lasso(2); takes(t, a, l) {
				t.Fatalf("%v: nothing is told, but %v is taken", a, l)
			}
		}
	}
	told(t, yes, no)
}

// If one is in the other, no word is taken by it alone.
func TestWholeIncluded(t *testing.T) {
	d := draw(46)
	yes, no := 0, 0
	for range 2000 {
		a, b := d.auto(1+d.n(3), 2), d.auto(1+d.n(3), 2)
		ok, l, e := include.Included(a, b)
		right(t, e)
		if !ok {
			no++
			if !takes(t, a, l) || takes(t, b, l) {
				t.Fatalf("%v in %v: %v is told", a, b, l)
			}
			continue
		}
		yes++
		for range 20 {
			if l := d.lasso(2); takes(t, a, l) && !takes(t, b, l) {
				t.Fatalf("%v in %v: %v is taken by a alone", a, b, l)
			}
		}
	}
	told(t, yes, no)
}

// If a formula holds of a model, it holds of each word that the model goes by; what is told, if it does not, is one of which it does not hold.
func TestWholeModels(t *testing.T) {
	d := draw(47)
	yes, no, tried := 0, 0, 0
	for range 3000 {
		m, f := d.model(1+d.n(6)), d.formula()
		ok, l, e1 := model.Holds(m, f)
		a, e2 := model.Auto(m)
		right(t, e1, e2)
		if !ok {
			no++
			if holdsOf(t, f, l) || !takes(t, a, l) {
				t.Fatalf("%v, %v: %v is told", m, f, l)
			}
		} else {
			yes++
		}
		for range 10 {
			l, found := d.way(m, 1+d.n(8))
			if !found {
				continue
			}
			tried++
			if !takes(t, a, l) || ok && !holdsOf(t, f, l) {
				t.Fatalf("%v, %v: it holds: %v; of %v: %v", m, f, ok, l, holdsOf(t, f, l))
			}
		}
	}
	told(t, yes, no, tried)
}

// The document's examples.
func TestWholeExamples(t *testing.T) {
	one, _, e := auto.Parse("states 1 letters 2\nfirst 0\ngood 0\n0 0 0\n")
	right(t, e)
	if !takes(t, one, api.Lasso{Loop: []int{0}}) || takes(t, one, api.Lasso{Head: []int{1}, Loop: []int{0}}) {
		t.Error("2: taken, or not")
	}
	least, e := word.Least(api.Lasso{Head: []int{0}, Loop: []int{0, 0}}, 2)
	if e != api.OK || len(least.Head) > 0 || !reflect.DeepEqual(least.Loop, []int{0}) {
		t.Error("2:", least, e)
	}
	f, _, e := formula.Parse("(p0 U p1)")
	right(t, e)
	g, _ := formula.Negate(f)
	if text, e := formula.Print(g); text != "(!p0 R !p1)" || e != api.OK {
		t.Error("3:", text, e)
	}
	l := api.Lasso{Head: []int{1, 2}, Loop: []int{0}}
	if rows, e := holds.Table(f, l); e != api.OK || !reflect.DeepEqual(rows[2], []bool{true, true, false}) {
		t.Error("4:", rows, e)
	}
	a, e := tableau.Translate(f)
	right(t, e)
	if !takes(t, a, l) || takes(t, a, api.Lasso{Loop: []int{1}}) {
		t.Error("5: taken, or not")
	}
	none := api.Auto{States: 1, Letters: 2, Good: []bool{false}}
	either, e := both.Either(one, none)
	right(t, e)
	if !takes(t, either, api.Lasso{Loop: []int{0}}) {
		t.Error("6: not taken")
	}
	in, _, e1 := include.Included(none, one)
	out, _, e2 := include.Included(one, none)
	if right(t, e1, e2); !in || out {
		t.Error("7:", in, out)
	}
	m := api.Model{Props: 1, Labels: []int{1}, First: []int{0}, Steps: [][]int{{0}}}
	yes, e1 := model.Ask(m, "Xp0")
	no, e2 := model.Ask(m, "!p0")
	if right(t, e1, e2); yes != "holds\n" || no != "fails\n" {
		t.Error("8:", yes, no)
	}
}
