package formula_test

import (
	"slices"
	"testing"

	"lassowork/api"
	"lassowork/formula"
)

// C3.
func TestNegate(t *testing.T) {
	for text, want := range map[string]string{
		"true": "!true", "!true": "true", "!!true": "!true", "p1": "!p1", "!p1": "p1", "!!!p1": "p1",
		"(p0 & p1)": "(!p0 | !p1)", "(p0 | p1)": "(!p0 & !p1)", "(p0 U p1)": "(!p0 R !p1)", "(p0 R p1)": "(!p0 U !p1)",
		"!(p0 & p1)": "(p0 & p1)", "!(p0 | p1)": "(p0 | p1)", "!(p0 U p1)": "(p0 U p1)", "!(p0 R p1)": "(p0 R p1)",
		"Xp0": "X!p0", "!Xp0": "Xp0", "X!p0": "Xp0", "!X!p0": "X!p0", "XX!true": "XXtrue",
		"!(!p0 & !!p1)": "(!p0 & p1)", "!!(p0 U !(p1 & X!p2))": "(!p0 R (p1 & X!p2))",
		"(!(true U p0) R (p1 | !p2))": "((true U p0) U (!p1 & p2))",
	} {
		f, _, e := formula.Parse(text)
		if e != api.OK {
			t.Fatal(text, e)
		}
		g, e := formula.Negate(f)
		if got, e2 := formula.Print(g); got != want || e != api.OK || e2 != api.OK {
			t.Errorf("Negate %s: %s %d, want %s", text, got, e, want)
		}
		if parsed, _, _ := formula.Parse(want); !slices.Equal(g, parsed) {
			t.Errorf("Negate %s: %v, want %v", text, g, parsed)
		}
	}
}

// C3: what is told by several nodes is counted for each; what no node tells of is not counted.
func TestNegateMany(t *testing.T) {
	parse := func(text string) api.Formula {
		f, _, e := formula.Parse(text)
		if e != api.OK {
			t.Fatal(text, e)
		}
		return f
	}
	for _, c := range []struct {
		f     api.Formula
		nodes int
		want  api.Errno
	}{
		{parse("(((p0 & p1) & p2) & !true)"), 10, api.OK}, // 4 at the ends, 3 Nots, 3 between
		{parse("(((p0 & p1) & p2) & (!true & !p0))"), 12, api.OK},
		{parse("(((p0 & p1) & p2) & (!true & p0))"), 0, api.ErrMany},
		{parse("(((p0 & !p1) & p2) & (!true & !p0))"), 11, api.OK},
		{chain(api.Next, 4), 6, api.OK},
		{chain(api.Not, 11), 1, api.OK},
		{chain(api.Not, 10), 2, api.OK},
		{doubled(api.Until, 1), 5, api.OK},
		{doubled(api.Until, 2), 11, api.OK},
		{doubled(api.Until, 3), 0, api.ErrMany},
		{append(doubled(api.Until, 2), node(api.Not, 2, 0, 0)), 7, api.OK},
		{append(doubled(api.Until, 2), node(api.Not, 2, 0, 0), node(api.Next, 3, 0, 0)), 8, api.OK},
		{append(doubled(api.Until, 2), node(api.Next, 2, 0, 0), node(api.Next, 3, 0, 0)), 0, api.ErrMany}, // 13 nodes, 5 of the three
		{api.Formula{prop(0), node(api.Not, 0, 0, 0), node(api.Next, 1, 0, 0), node(api.And, 2, 2, 0), node(api.And, 3, 3, 0)}, 11, api.OK},
		{api.Formula{prop(0), node(api.Not, 0, 0, 0), node(api.Next, 1, 0, 0), node(api.Next, 2, 0, 0), node(api.Next, 3, 0, 0), node(api.And, 4, 4, 0)}, 0, api.ErrMany}, // 9 nodes, but 6 of the three
		{append(doubled(api.And, 10), prop(0)), 2, api.OK},
		{doubled(api.Or, 11), 0, api.ErrMany},
	} {
		f, e := formula.Negate(c.f)
		if len(f) != c.nodes || e != c.want {
			t.Errorf("Negate %v: %v %d, want %d nodes, %d", c.f, f, e, c.nodes, c.want)
		}
	}
}

// opposite, written: by the document's words. What is not negated loses its Nots all the same.
func opposite(f api.Formula, at int, turned bool) string {
	n := f[at]
	switch n.Kind {
	case api.True, api.Prop:
		if turned {
			return "!" + write(f, at)
		}
		return write(f, at)
	case api.Not:
		return opposite(f, n.A, !turned)
	case api.Next:
		return "X" + opposite(f, n.A, turned)
	}
	sign := map[int]string{4: " & ", 5: " | ", 7: " U ", 8: " R "}
	if turned {
		sign = map[int]string{5: " & ", 4: " | ", 8: " U ", 7: " R "}
	}
	return "(" + opposite(f, n.A, turned) + sign[n.Kind] + opposite(f, n.B, turned) + ")"
}

// C3, C4: of many formulas the opposite is what the words say, as Parse would have it, or too many.
func TestNegateDrawn(t *testing.T) {
	d := draw(1)
	right, many := 0, 0
	for range 20000 {
		f := d.formula(12)
		text := opposite(f, len(f)-1, true)
		want, at, e := formula.Parse(text)
		if at != 0 || e != api.OK && e != api.ErrMany {
			t.Fatalf("Parse %q: %d %d", text, at, e)
		}
		got, e2 := formula.Negate(f)
		if !slices.Equal(got, want) || e2 != e {
			t.Fatalf("Negate %v: %v %d, want %v %d", f, got, e2, want, e)
		}
		if e != api.OK {
			many++
			continue
		}
		right++
		if twice, e := formula.Negate(got); e == api.OK {
			if text, _ := formula.Print(twice); text != opposite(f, len(f)-1, false) {
				t.Fatalf("%v negated twice: %s", f, text)
			}
		}
	}
	if right < 1000 || many < 1000 {
		t.Errorf("%d opposites, %d too many: that tells little", right, many)
	}
}
