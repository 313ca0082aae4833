package holds_test

import (
	"reflect"
	"slices"
	"testing"

	"lassowork/api"
	"lassowork/formula"
	"lassowork/holds"
)

func node(kind, a, b, n int) api.Node { return api.Node{Kind: kind, A: a, B: b, N: n} }

func lasso(head, loop []int) api.Lasso { return api.Lasso{Head: head, Loop: loop} }

func parse(t *testing.T, text string) api.Formula {
	t.Helper()
	f, at, e := formula.Parse(text)
	if e != api.OK {
		t.Fatal(text, at, e)
	}
	return f
}

// D1: Holds, and the last row of Table, of one word.
func TestHolds(t *testing.T) {
	l := lasso([]int{1, 2, 0}, []int{4, 0, 3})
	for _, c := range []struct{ text, want string }{
		{"true", "111111"}, {"!true", "000000"}, {"p0", "100001"}, {"p1", "010001"}, {"p2", "000100"},
		{"(p0 & p1)", "000001"}, {"(p0 | p1)", "110001"}, {"Xp2", "001001"}, {"XXXXp0", "010010"}, {"!Xp2", "110110"},
		{"(p0 U p1)", "110001"}, {"(!p2 U p1)", "110011"}, {"(true U p2)", "111111"}, {"(true U (p0 & p2))", "000000"},
		{"(p0 R !p2)", "100011"}, {"(p2 R true)", "111111"}, {"(!true R (p0 | !p0))", "111111"}, {"(p0 R p1)", "000001"},
		{"(!true R (true U p2))", "111111"}, {"(true U (!true R p1))", "000000"}, {"(p2 R !p0)", "011100"}, {"(p2 R (p0 | !p1))", "001111"},
	} {
		f := parse(t, c.text)
		rows, e := holds.Table(f, l)
		if e != api.OK || len(rows) != len(f) {
			t.Fatalf("%s: %v %d", c.text, rows, e)
		}
		got := ""
		for _, ok := range rows[len(f)-1] {
			got += map[bool]string{true: "1", false: "0"}[ok]
		}
		if got != c.want {
			t.Errorf("%s: %s, want %s", c.text, got, c.want)
		}
		if ok, e := holds.Holds(f, l); ok != (c.want[0] == '1') || e != api.OK {
			t.Errorf("%s: %v %d", c.text, ok, e)
		}
	}
}

// D1: a row for each node, told of or not; at a word without Head, Holds looks at where Loop begins.
func TestTable(t *testing.T) {
	f := api.Formula{node(api.Prop, 0, 0, 0), node(api.Next, 0, 0, 0), node(api.True, 0, 0, 0), node(api.Not, 0, 0, 0)}
	got, e := holds.Table(f, lasso(nil, []int{0, 1}))
	if want := [][]bool{{false, true}, {true, false}, {true, true}, {true, false}}; !reflect.DeepEqual(got, want) || e != api.OK {
		t.Errorf("%v %d, want %v", got, e, want)
	}
	if ok, e := holds.Holds(f, lasso(nil, []int{0, 1})); !ok || e != api.OK {
		t.Errorf("%v %d", ok, e)
	}
	if ok, e := holds.Holds(f, lasso([]int{}, []int{1, 0})); ok || e != api.OK {
		t.Errorf("%v %d", ok, e)
	}
}

// D1: errors, and which one is told, where both are wrong.
func TestErrors(t *testing.T) {
	right := parse(t, "(p0 U p1)")
	word := lasso([]int{7}, []int{0})
	for _, c := range []struct {
		name string
		f    api.Formula
		l    api.Lasso
		want api.Errno
	}{
		{"right", right, word, api.OK},
		{"no formula", nil, word, api.ErrForm},
		{"no kind", api.Formula{{}}, word, api.ErrKind},
		{"no such part", api.Formula{node(api.Not, 0, 0, 0)}, word, api.ErrNone},
		{"no such proposition", api.Formula{node(api.Prop, 0, 0, 3)}, word, api.ErrRange},
		{"too many nodes", make(api.Formula, 13), word, api.ErrMany},
		{"no word", right, api.Lasso{}, api.ErrForm},
		{"no loop", right, lasso([]int{0}, nil), api.ErrForm},
		{"no letter in head", right, lasso([]int{8}, []int{0}), api.ErrNone},
		{"no letter in loop", right, lasso(nil, []int{0, 8}), api.ErrNone},
		{"below 0", right, lasso(nil, []int{-1}), api.ErrNone},
		{"head too long", right, lasso(make([]int, 4001), []int{0}), api.ErrMany},
		{"loop too long", right, lasso(nil, make([]int, 4001)), api.ErrMany},
		{"both: form, many", nil, lasso(nil, make([]int, 4001)), api.ErrForm},
		{"both: kind, form", api.Formula{{}}, api.Lasso{}, api.ErrKind},
		{"both: range, none", api.Formula{node(api.Prop, 0, 0, -1)}, lasso(nil, []int{9}), api.ErrRange},
	} {
		if ok, e := holds.Holds(c.f, c.l); e != c.want || ok != (c.want == api.OK) {
			t.Errorf("%s: Holds %v %d, want %d", c.name, ok, e, c.want)
		}
		if rows, e := holds.Table(c.f, c.l); e != c.want || (len(rows) == 0) != (c.want != api.OK) {
			t.Errorf("%s: Table %v %d, want %d", c.name, rows, e, c.want)
		}
	}
}

// P2: what is handed in stays as it is and is not kept; rows share no memory.
func TestMemory(t *testing.T) {
	fresh := func() (api.Formula, api.Lasso) {
		return api.Formula{node(api.Prop, 0, 0, 0), node(api.Not, 0, 0, 0), node(9, 9, 9, 9)}, lasso([]int{1, 0, 9, 9, 9, 9}, []int{1, 1, 9, 9})
	}
	f, l := fresh()
	got, e := holds.Table(f[:2], lasso(l.Head[:2], l.Loop[:2]))
	holds.Holds(f[:2], lasso(l.Head[:2], l.Loop[:2]))
	if f2, l2 := fresh(); !reflect.DeepEqual(f, f2) || !reflect.DeepEqual(l, l2) {
		t.Error("what was handed in has changed", f, l)
	}
	clear(f)
	clear(l.Head)
	clear(l.Loop)
	want := []bool{false, true, false, false}
	if e != api.OK || len(got) != 2 || !slices.Equal(got[1], want) {
		t.Fatal(got, e)
	}
	for i := range got {
		other := slices.Clone(got[1-i])
		row := append(got[i], true, true, true, true)
		clear(row)
		clear(got[i])
		if !slices.Equal(got[1-i], other) {
			t.Error("rows share memory", got)
		}
	}
}

// D1, P4: as long as may be: what holds only where it begins, or ends, is found from everywhere.
func TestGreatest(t *testing.T) {
	long := make([]int, 4000)
	last := slices.Clone(long)
	last[3999] = 1
	f := parse(t, "(true U p0)")
	for _, c := range []struct {
		l    api.Lasso
		want int // at how many places
	}{{lasso(long, long), 0}, {lasso(last, long), 4000}, {lasso(long, last), 8000}, {lasso(last, last), 8000}} {
		rows, e := holds.Table(f, c.l)
		if e != api.OK || len(rows) != 3 {
			t.Fatal(len(rows), e)
		}
		count := 0
		for _, ok := range rows[2] {
			if ok {
				count++
			}
		}
		if len(rows[2]) != 8000 || count != c.want {
			t.Errorf("it holds at %d of %d places, want %d", count, len(rows[2]), c.want)
		}
	}
	deep := api.Formula{node(api.Prop, 0, 0, 0)}
	for at := range api.MaxNodes - 1 {
		deep = append(deep, node(api.And, at, at, 0))
	}
	if ok, e := holds.Holds(deep, lasso(long, last)); ok || e != api.OK {
		t.Error(ok, e)
	}
}
