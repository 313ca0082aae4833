package holds_test

import (
	"testing"

	"lassowork/api"
	"lassowork/formula"
	"lassowork/holds"
)

// lists of that many letters below 4.
func lists(count int) [][]int {
	all := [][]int{nil}
	for range count {
		var longer [][]int
		for _, l := range all {
			for letter := range 4 {
				longer = append(longer, append(l[:len(l):len(l)], letter))
			}
		}
		all = longer
	}
	return all
}

// lassos with at most that many letters in Head, and in Loop.
func lassos(head, loop int) []api.Lasso {
	var all []api.Lasso
	for h := range head + 1 {
		for n := 1; n <= loop; n++ {
			for _, begin := range lists(h) {
				for _, again := range lists(n) {
					all = append(all, lasso(begin, again))
				}
			}
		}
	}
	return all
}

// small: all formulas of three nodes, with two propositions.
func small() []api.Formula {
	all := []api.Formula{nil}
	for at := range 3 {
		var longer []api.Formula
		for _, f := range all {
			for _, n := range nodes(at) {
				longer = append(longer, append(f[:at:at], n))
			}
		}
		all = longer
	}
	return all
}

// nodes that may stand behind that many others.
func nodes(ahead int) []api.Node {
	all := []api.Node{node(api.True, 0, 0, 0), node(api.Prop, 0, 0, 0), node(api.Prop, 0, 0, 1)}
	for a := range ahead {
		all = append(all, node(api.Not, a, 0, 0), node(api.Next, a, 0, 0))
		for b := range ahead {
			for _, kind := range []int{api.And, api.Or, api.Until, api.Release} {
				all = append(all, node(kind, a, b, 0))
			}
		}
	}
	return all
}

// draw: numbers that look like drawn ones, the same each time.
type draw uint64

func (d *draw) n(n int) int {
	*d = *d*6364136223846793005 + 1442695040888963407
	return int(uint64(*d) >> 33 % uint64(n))
}

// formula of at most 8 nodes.
func (d *draw) formula() api.Formula {
	for {
		var f api.Formula
		for at := range 1 + d.n(8) {
			may := nodes(at)
			f = append(f, may[d.n(len(may))])
		}
		if formula.Check(f) == api.OK {
			return f
		}
	}
}

func (d *draw) lasso() api.Lasso {
	letters := func(count int) []int {
		var all []int
		for range count {
			all = append(all, d.n(8))
		}
		return all
	}
	return lasso(letters(d.n(5)), letters(1+d.n(5)))
}

// meaning of a node at a place, by the words of api: Until and Release look on as far as there are places.
func meaning(f api.Formula, l api.Lasso, number, place int) bool {
	places := len(l.Head) + len(l.Loop)
	for place >= places {
		place -= len(l.Loop)
	}
	n := f[number]
	a := func(at int) bool { return meaning(f, l, n.A, at) }
	b := func(at int) bool { return meaning(f, l, n.B, at) }
	switch n.Kind {
	case api.Prop:
		if place < len(l.Head) {
			return l.Head[place]>>n.N%2 == 1
		}
		return l.Loop[place-len(l.Head)]>>n.N%2 == 1
	case api.Not:
		return !a(place)
	case api.And:
		return a(place) && b(place)
	case api.Or:
		return a(place) || b(place)
	case api.Next:
		return a(place + 1)
	case api.Until: // B at some time, A till then
		for at := place; at < place+places; at++ {
			if b(at) {
				return true
			}
			if !a(at) {
				return false
			}
		}
		return false
	case api.Release: // B up to and at where A is, if it ever is
		for at := place; at < place+places; at++ {
			if !b(at) {
				return false
			}
			if a(at) {
				return true
			}
		}
		return true
	}
	return true
}

// D1: of all small formulas and words, and of drawn ones, the table is what api says.
func TestMeaning(t *testing.T) {
	words := lassos(1, 2)
	for _, f := range small() {
		for _, l := range words {
			asMeant(t, f, l)
		}
	}
	d := draw(1)
	for range 10000 {
		asMeant(t, d.formula(), d.lasso())
	}
}

func asMeant(t *testing.T, f api.Formula, l api.Lasso) {
	t.Helper()
	rows, e := holds.Table(f, l)
	if e != api.OK || len(rows) != len(f) {
		t.Fatal(f, l, rows, e)
	}
	for number, row := range rows {
		if len(row) != len(l.Head)+len(l.Loop) {
			t.Fatal(f, l, row)
		}
		for place, got := range row {
			if want := meaning(f, l, number, place); got != want {
				t.Fatalf("%v, %v: node %d at %d: %v, want %v", f, l, number, place, got, want)
			}
		}
	}
	if ok, e := holds.Holds(f, l); ok != rows[len(f)-1][0] || e != api.OK {
		t.Fatal(f, l, ok, e)
	}
}

// D2: Until and Release, by what holds now and next; and one of opposites is the opposite of the other.
func TestNowAndNext(t *testing.T) {
	f := parse(t, "((p0 U p1) & (!p0 R !p1))")
	const a, b, until, notA, notB, release = 0, 1, 2, 4, 6, 7
	for _, l := range lassos(2, 3) {
		rows, e := holds.Table(f, l)
		if e != api.OK {
			t.Fatal(l, e)
		}
		for place := range rows[0] {
			next := place + 1
			if next == len(rows[0]) {
				next = len(l.Head)
			}
			u := rows[b][place] || rows[a][place] && rows[until][next]
			r := rows[notB][place] && (rows[notA][place] || rows[release][next])
			if rows[until][place] != u || rows[release][place] != r || u == r {
				t.Fatal(l, place, rows)
			}
		}
	}
}

// C3, C4, D2: a formula holds just where its opposite does not, and where the opposite of that does.
func TestOpposite(t *testing.T) {
	d := draw(2)
	yes, no := 0, 0
	for range 20000 {
		f, l := d.formula(), d.lasso()
		g, e := formula.Negate(f)
		if e == api.ErrMany {
			continue
		}
		ok, e1 := holds.Holds(f, l)
		not, e2 := holds.Holds(g, l)
		if e != api.OK || e1 != api.OK || e2 != api.OK || ok == not {
			t.Fatal(f, g, l, ok, not, e, e1, e2)
		}
		if h, e := formula.Negate(g); e == api.OK {
			if again, e := holds.Holds(h, l); again != ok || e != api.OK {
				t.Fatal(f, h, l, again, e)
			}
		}
		if ok {
			yes++
		} else {
			no++
		}
	}
	if yes < 2000 || no < 2000 {
		t.Errorf("%d hold, %d do not: that tells little", yes, no)
	}
}
