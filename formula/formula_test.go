package formula_test

import (
	"slices"
	"strings"
	"testing"

	"lassowork/api"
	"lassowork/formula"
)

func node(kind, a, b, n int) api.Node { return api.Node{Kind: kind, A: a, B: b, N: n} }

func prop(n int) api.Node { return node(api.Prop, 0, 0, n) }

// doubled: p0, then so many nodes of a kind, each made of the one ahead of it twice.
func doubled(kind, count int) api.Formula {
	f := api.Formula{prop(0)}
	for at := range count {
		f = append(f, node(kind, at, at, 0))
	}
	return f
}

// chain: true, then so many nodes of a kind, each made of the one ahead of it.
func chain(kind, count int) api.Formula {
	f := api.Formula{node(api.True, 0, 0, 0)}
	for at := range count {
		f = append(f, node(kind, at, 0, 0))
	}
	return f
}

// draw: numbers that look like drawn ones, the same each time.
type draw uint64

func (d *draw) n(n int) int {
	*d = *d*6364136223846793005 + 1442695040888963407
	return int(uint64(*d) >> 33 % uint64(n))
}

// formula that is right, of at most that many nodes; its parts may stand in several others.
func (d *draw) formula(most int) api.Formula {
	var f api.Formula
	temporal := 0
	for count := 1 + d.n(most); len(f) < count; {
		n := node(1+d.n(8), 0, 0, 0)
		if n.Kind == api.Prop {
			n.N = d.n(api.MaxProps)
		}
		if n.Kind >= api.Not {
			if len(f) == 0 {
				continue
			}
			n.A = d.n(len(f))
		}
		if n.Kind != api.Next && n.Kind > api.Not {
			n.B = d.n(len(f))
		}
		if n.Kind >= api.Next {
			if temporal == api.MaxTemporal {
				continue
			}
			temporal++
		}
		f = append(f, n)
	}
	return f
}

// write by the document's words, not by a map of signs.
func write(f api.Formula, at int) string {
	n := f[at]
	switch n.Kind {
	case api.True:
		return "true"
	case api.Prop:
		return "p" + string(rune('0'+n.N))
	case api.Not:
		return "!" + write(f, n.A)
	case api.Next:
		return "X" + write(f, n.A)
	}
	return "(" + write(f, n.A) + map[int]string{4: " & ", 5: " | ", 7: " U ", 8: " R "}[n.Kind] + write(f, n.B) + ")"
}

// C1: each error by itself, and the edges that are none.
func TestCheck(t *testing.T) {
	wrong := func(n api.Node) api.Formula { return api.Formula{prop(0), prop(1), n, prop(2)} }
	for _, c := range []struct {
		name string
		f    api.Formula
		want api.Errno
	}{
		{"no nodes", nil, api.ErrForm},
		{"empty", api.Formula{}, api.ErrForm},
		{"true", api.Formula{node(api.True, 0, 0, 0)}, api.OK},
		{"most nodes", doubled(api.Or, 11), api.OK},
		{"nodes above", doubled(api.Or, 12), api.ErrMany},
		{"most Next", chain(api.Next, 4), api.OK},
		{"Next above", chain(api.Next, 5), api.ErrMany},
		{"most Until", doubled(api.Until, 4), api.OK},
		{"Until above", doubled(api.Until, 5), api.ErrMany},
		{"most Release", doubled(api.Release, 4), api.OK},
		{"Release above", doubled(api.Release, 5), api.ErrMany},
		{"of all three above", append(doubled(api.Until, 2), node(api.Release, 0, 1, 0), node(api.Next, 0, 0, 0), node(api.Next, 4, 0, 0)), api.ErrMany},
		{"others are not counted", append(doubled(api.And, 4), doubled(api.Or, 6)...), api.OK},
		{"kind 0", wrong(node(0, 0, 0, 0)), api.ErrKind},
		{"kind below 0", wrong(node(-1, 0, 0, 0)), api.ErrKind},
		{"kind above", wrong(node(9, 0, 0, 0)), api.ErrKind},
		{"least N", api.Formula{prop(0)}, api.OK},
		{"most N", api.Formula{prop(2)}, api.OK},
		{"N above", wrong(prop(3)), api.ErrRange},
		{"N below 0", wrong(prop(-1)), api.ErrRange},
		{"a part of which nothing is told", wrong(node(api.And, 1, 0, 0)), api.OK},
	} {
		checkAll(t, c.name, c.f, c.want)
	}
}

// C1: of each kind, what A, B and N may be.
func TestCheckParts(t *testing.T) {
	at := func(n api.Node) api.Formula { return api.Formula{prop(0), prop(1), n} }
	parts := map[int]int{api.True: 0, api.Prop: 0, api.Not: 1, api.And: 2, api.Or: 2, api.Next: 1, api.Until: 2, api.Release: 2}
	for kind, count := range parts {
		a, b := api.ErrForm, api.ErrForm
		if count >= 1 {
			a = api.ErrNone
		}
		if count >= 2 {
			b = api.ErrNone
		}
		for _, wrong := range []int{-1, 2, 3, 99} {
			checkAll(t, "A", at(node(kind, wrong, 0, 0)), a)
			checkAll(t, "B", at(node(kind, 0, wrong, 0)), b)
		}
		if count < 1 {
			checkAll(t, "A that is a node", at(node(kind, 1, 0, 0)), api.ErrForm)
		}
		if count < 2 {
			checkAll(t, "B that is a node", at(node(kind, 0, 1, 0)), api.ErrForm)
		}
		if kind != api.Prop {
			checkAll(t, "N", at(node(kind, 0, 0, 1)), api.ErrForm)
			checkAll(t, "N below 0", at(node(kind, 0, 0, -1)), api.ErrForm)
		}
		checkAll(t, "right", at(node(kind, 0, 0, 0)), api.OK)
		if count >= 1 {
			checkAll(t, "its own number", api.Formula{node(kind, 0, 0, 0)}, api.ErrNone)
		}
	}
}

// C1, P1: where several apply, the one that is named first.
func TestCheckOrder(t *testing.T) {
	for _, c := range []struct {
		name string
		f    api.Formula
		want api.Errno
	}{
		{"many nodes, kind", append(api.Formula{node(0, 0, 0, 0)}, doubled(api.And, 11)...), api.ErrMany},
		{"many of the three, kind", append(api.Formula{node(9, 0, 0, 0)}, chain(api.Next, 5)...), api.ErrMany},
		{"kind, parts", api.Formula{node(9, 5, 5, 5)}, api.ErrKind},
		{"B is none, N must be 0", api.Formula{prop(0), node(api.Until, 0, 1, 1)}, api.ErrNone},
		{"A is none, B must be 0", api.Formula{prop(0), node(api.Not, -1, 1, 0)}, api.ErrNone},
		{"N out of range, A must be 0", api.Formula{node(api.Prop, 1, 1, 3)}, api.ErrRange},
		{"form, later kind", api.Formula{node(api.True, 1, 0, 0), node(0, 0, 0, 0)}, api.ErrForm},
		{"range, later none", api.Formula{prop(3), node(api.Not, 7, 0, 0)}, api.ErrRange},
		{"none, later range", api.Formula{node(api.Next, 1, 0, 0), prop(-1)}, api.ErrNone},
		{"kind, later form", api.Formula{prop(0), node(-8, 0, 0, 0), node(api.True, 0, 1, 0)}, api.ErrKind},
	} {
		checkAll(t, c.name, c.f, c.want)
	}
}

// checkAll: what Check tells, Print and Negate tell too, with nothing else.
func checkAll(t *testing.T, name string, f api.Formula, want api.Errno) {
	t.Helper()
	if got := formula.Check(f); got != want {
		t.Errorf("%s: Check %v: %d, want %d", name, f, got, want)
	}
	if text, e := formula.Print(f); e != want || (text == "") != (want != api.OK) {
		t.Errorf("%s: Print %v: %.40q %d, want %d", name, f, text, e, want)
	}
	out, e := formula.Negate(f)
	if want == api.OK && e == api.ErrMany { // its own: see TestNegateMany
		want = api.ErrMany
	}
	if e != want || (len(out) == 0) != (want != api.OK) {
		t.Errorf("%s: Negate %v: %v %d, want %d", name, f, out, e, want)
	}
}

// C2: each kind, and only the last node with what it is made of.
func TestPrint(t *testing.T) {
	for _, c := range []struct {
		f    api.Formula
		want string
	}{
		{api.Formula{node(api.True, 0, 0, 0)}, "true"},
		{api.Formula{prop(1)}, "p1"},
		{api.Formula{prop(2), node(api.Not, 0, 0, 0), node(api.Next, 1, 0, 0)}, "X!p2"},
		{api.Formula{prop(0), prop(1), node(api.And, 0, 1, 0)}, "(p0 & p1)"},
		{api.Formula{prop(0), prop(1), node(api.Or, 1, 0, 0)}, "(p1 | p0)"},
		{api.Formula{prop(0), prop(1), node(api.Until, 0, 1, 0)}, "(p0 U p1)"},
		{api.Formula{prop(0), prop(1), node(api.Release, 0, 0, 0)}, "(p0 R p0)"},
		{api.Formula{prop(0), node(api.Next, 0, 0, 0), prop(2)}, "p2"},
		{doubled(api.And, 2), "((p0 & p0) & (p0 & p0))"},
	} {
		if got, e := formula.Print(c.f); got != c.want || e != api.OK {
			t.Errorf("Print %v: %q %d, want %q", c.f, got, e, c.want)
		}
	}
	if got, e := formula.Print(doubled(api.And, 11)); len(got) != 2048*2+2047*5 || e != api.OK {
		t.Errorf("%d bytes, %d", len(got), e)
	}
}

// C2: the nodes, and their order.
func TestParse(t *testing.T) {
	for text, want := range map[string]api.Formula{
		"true":      {node(api.True, 0, 0, 0)},
		"p2":        {prop(2)},
		"!!Xp0":     {prop(0), node(api.Next, 0, 0, 0), node(api.Not, 1, 0, 0), node(api.Not, 2, 0, 0)},
		"(p0 & p0)": {prop(0), prop(0), node(api.And, 0, 1, 0)},
		"(!p1 | X(p0 U (true R p2)))": {prop(1), node(api.Not, 0, 0, 0), prop(0), node(api.True, 0, 0, 0), prop(2),
			node(api.Release, 3, 4, 0), node(api.Until, 2, 5, 0), node(api.Next, 6, 0, 0), node(api.Or, 1, 7, 0)},
		strings.Repeat("!", 11) + "true": chain(api.Not, 11),
		"XXXXtrue":                       chain(api.Next, 4),
	} {
		if got, at, e := formula.Parse(text); !slices.Equal(got, want) || at != 0 || e != api.OK {
			t.Errorf("Parse %q: %v %d %d, want %v", text, got, at, e, want)
		}
	}
}

// C2: errors, and where.
func TestParseErrors(t *testing.T) {
	for _, c := range []struct {
		text string
		at   int
		want api.Errno
	}{
		{"", 0, api.ErrForm}, {" ", 0, api.ErrForm}, {"\x00", 0, api.ErrForm}, {"\xff", 0, api.ErrForm}, {"q", 0, api.ErrForm},
		{"True", 0, api.ErrForm}, {"t", 1, api.ErrForm}, {"tr", 2, api.ErrForm}, {"tRue", 1, api.ErrForm}, {"tru", 3, api.ErrForm},
		{"true ", 4, api.ErrForm}, {"true\n", 4, api.ErrForm}, {"truetrue", 4, api.ErrForm}, {" true", 0, api.ErrForm},
		{"p", 1, api.ErrForm}, {"px", 1, api.ErrForm}, {"p 0", 1, api.ErrForm}, {"p-1", 1, api.ErrForm}, {"p+1", 1, api.ErrForm},
		{"p00", 2, api.ErrForm}, {"p01", 2, api.ErrForm}, {"p0x", 2, api.ErrForm}, {"p0p1", 2, api.ErrForm}, {"p1a", 2, api.ErrForm},
		{"(p0 U p02)", 8, api.ErrForm}, {"(p00 U p1)", 3, api.ErrForm},
		{"!", 1, api.ErrForm}, {"! p0", 1, api.ErrForm}, {"X", 1, api.ErrForm}, {"X p0", 1, api.ErrForm}, {"!&", 1, api.ErrForm},
		{"U", 0, api.ErrForm}, {"R", 0, api.ErrForm}, {"&", 0, api.ErrForm}, {"|", 0, api.ErrForm}, {")", 0, api.ErrForm},
		{"(", 1, api.ErrForm}, {"( p0 & p1)", 1, api.ErrForm}, {"(p0", 3, api.ErrForm}, {"(p0 ", 4, api.ErrForm}, {"(p0  & p1)", 4, api.ErrForm},
		{"(p0 !p1)", 4, api.ErrForm}, {"(p0 Xp1)", 4, api.ErrForm}, {"(p0 X p1)", 4, api.ErrForm}, {"(p0 t p1)", 4, api.ErrForm},
		{"(p0 &", 5, api.ErrForm}, {"(p0 && p1)", 5, api.ErrForm}, {"(p0 &  p1)", 6, api.ErrForm}, {"(p0 & )", 6, api.ErrForm},
		{"(p0 & p1", 8, api.ErrForm}, {"(p0 & p1 )", 8, api.ErrForm}, {"(p0 & p1 & p2)", 8, api.ErrForm}, {"(p0 & p1]", 8, api.ErrForm},
		{"(p0 & p1))", 9, api.ErrForm}, {"(p0 & p1) ", 9, api.ErrForm}, {"((p0 U p1) R", 12, api.ErrForm},
		{"p3", 0, api.ErrRange}, {"p10", 0, api.ErrRange}, {"p4294967296", 0, api.ErrRange}, {"p18446744073709551616", 0, api.ErrRange},
		{"p" + strings.Repeat("9", 1999), 0, api.ErrRange}, {"(p1 U !p3)", 0, api.ErrRange}, {"(p3 U p1", 8, api.ErrForm},
		{"XXXXXtrue", 0, api.ErrMany}, {strings.Repeat("!", 12) + "true", 0, api.ErrMany}, {strings.Repeat("!", 12) + "p9", 0, api.ErrMany},
		{strings.Repeat("!", 12) + "q", 12, api.ErrForm}, {strings.Repeat("(", 2000), 2000, api.ErrForm}, {strings.Repeat("(", 2001), 0, api.ErrMany},
		{strings.Repeat("!", 1996) + "true", 0, api.ErrMany}, {strings.Repeat("\n", 2000), 0, api.ErrForm}, {strings.Repeat("X", 100000), 0, api.ErrMany},
	} {
		if f, at, e := formula.Parse(c.text); len(f) != 0 || at != c.at || e != c.want {
			t.Errorf("Parse %.40q: %v %d %d, want %d %d", c.text, f, at, e, c.at, c.want)
		}
	}
}

// P2: what is handed in stays as it is, and is not kept.
func TestMemory(t *testing.T) {
	fresh := func() api.Formula {
		return api.Formula{prop(0), prop(1), node(api.Until, 0, 1, 0), prop(2), node(9, 9, 9, 9)}
	}
	whole := fresh()
	f := whole[:3]
	formula.Check(f)
	formula.Print(f)
	got, e := formula.Negate(f)
	if !slices.Equal(whole, fresh()) {
		t.Error("what was handed in has changed", whole)
	}
	want := slices.Clone(got)
	clear(whole)
	if !slices.Equal(got, want) || len(got) != 5 || e != api.OK {
		t.Error("what was handed in is kept", got)
	}
	clear(got)
	if again, _, _ := formula.Parse("(!p0 R !p1)"); !slices.Equal(again, want) {
		t.Error("an answer is not the caller's", again)
	}
}
