package holds

import (
	"slices"

	"lassowork/api"
)

// table of what holds of a word: by node, by place.
type table struct {
	letters []int // of Head and then of Loop
	loop    int   // the place where Loop begins
	rows    [][]bool
}

func newTable(f api.Formula, l api.Lasso) table {
	t := table{slices.Concat(l.Head, l.Loop), len(l.Head), make([][]bool, len(f))}
	for number, n := range f {
		t.rows[number] = t.fill(n.Kind == api.Release, t.rule(n))
	}
	return t
}

// rule of a node: does it hold at a place, if it is known whether it does at the next one? The rows of what it is made of must be there.
func (t table) rule(n api.Node) func(place int, next bool) bool {
	a, b := t.rows[n.A], t.rows[n.B]
	switch n.Kind {
	case api.Prop:
		return func(place int, _ bool) bool { return t.letters[place]>>n.N&1 != 0 }
	case api.Not:
		return func(place int, _ bool) bool { return !a[place] }
	case api.And:
		return func(place int, _ bool) bool { return a[place] && b[place] }
	case api.Or:
		return func(place int, _ bool) bool { return a[place] || b[place] }
	case api.Next:
		return func(place int, _ bool) bool { return a[t.next(place)] }
	case api.Until:
		return func(place int, next bool) bool { return b[place] || a[place] && next }
	case api.Release:
		return func(place int, next bool) bool { return b[place] && (a[place] || next) }
	}
	return func(int, bool) bool { return true }
}

// next place: behind the last one of Loop its first one stands again.
func (t table) next(place int) int {
	if place+1 == len(t.letters) {
		return t.loop
	}
	return place + 1
}

// fill a row by a rule, from the last place to the first one. What holds behind the last place is what holds where Loop begins: not known yet, so Loop is gone through twice. The first time it is what would be, if the rule looked on without an end: Until does not hold then, Release does.
func (t table) fill(endless bool, rule func(place int, next bool) bool) []bool {
	row := make([]bool, len(t.letters))
	next := endless
	back := func(from, to int) {
		for place := from - 1; place >= to; place-- {
			next = rule(place, next)
			row[place] = next
		}
	}
	back(len(row), t.loop)
	back(len(row), t.loop)
	back(t.loop, 0)
	return row
}
