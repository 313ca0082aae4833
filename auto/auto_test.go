package auto_test

import (
	"reflect"
	"slices"
	"strconv"
	"strings"
	"testing"

	"lassowork/api"
	"lassowork/auto"
)

func step(from, letter, to int) api.Step { return api.Step{From: from, Letter: letter, To: to} }

// sample: two states, two letters; good whenever letter 1 was just read.
func sample() api.Auto {
	return api.Auto{States: 2, Letters: 2, First: []int{0}, Good: []bool{false, true},
		Steps: []api.Step{step(0, 0, 0), step(0, 1, 1), step(1, 0, 0), step(1, 1, 1)}}
}

const sampleText = "states 2 letters 2\nfirst 0\ngood 1\n0 0 0\n0 1 1\n1 0 0\n1 1 1\n"

// greatest: as many states, letters and steps as may be.
func greatest() api.Auto {
	a := api.Auto{States: api.MaxStates, Letters: api.MaxLetters}
	for s := range a.States {
		a.First = append(a.First, s)
		a.Good = append(a.Good, true)
		for k := range api.MaxSteps / api.MaxStates {
			a.Steps = append(a.Steps, step(s, api.MaxLetters-1, a.States-20+k))
		}
	}
	return a
}

// same: alike, whether their empty lists are nil or not.
func same(a, b api.Auto) bool {
	return a.States == b.States && a.Letters == b.Letters && slices.Equal(a.First, b.First) &&
		slices.Equal(a.Good, b.Good) && slices.Equal(a.Steps, b.Steps)
}

// draw: numbers that look like drawn ones, the same each time.
type draw uint64

func (d *draw) n(n int) int {
	*d = *d*6364136223846793005 + 1442695040888963407
	return int(uint64(*d) >> 33 % uint64(n))
}

// auto that is right; a step is in it with 1 chance in rare.
func (d *draw) auto(states, letters, rare int) api.Auto {
	a := api.Auto{States: states, Letters: letters}
	for s := range states {
		if d.n(3) == 0 {
			a.First = append(a.First, s)
		}
		a.Good = append(a.Good, d.n(2) == 0)
		for l := range letters {
			for to := range states {
				if d.n(rare) == 0 {
					a.Steps = append(a.Steps, step(s, l, to))
				}
			}
		}
	}
	return a
}

// A1: each error by itself, and the edges that are none.
func TestCheck(t *testing.T) {
	for _, c := range []struct {
		name string
		turn func(a *api.Auto)
		want api.Errno
	}{
		{"right", func(a *api.Auto) {}, api.OK},
		{"no first, no steps", func(a *api.Auto) { a.First, a.Steps = nil, nil }, api.OK},
		{"empty lists", func(a *api.Auto) { a.First, a.Steps = []int{}, []api.Step{} }, api.OK},
		{"all first", func(a *api.Auto) { a.First = []int{0, 1} }, api.OK},
		{"zero", func(a *api.Auto) { *a = api.Auto{} }, api.ErrRange},
		{"no states", func(a *api.Auto) { a.States, a.Good = 0, nil }, api.ErrRange},
		{"states below 0", func(a *api.Auto) { a.States = -1 }, api.ErrRange},
		{"states above", func(a *api.Auto) { a.States, a.Good = 301, make([]bool, 301) }, api.ErrRange},
		{"most states", func(a *api.Auto) { a.States, a.Good = 300, make([]bool, 300) }, api.OK},
		{"no letters", func(a *api.Auto) { a.Letters = 0 }, api.ErrRange},
		{"letters below 0", func(a *api.Auto) { a.Letters = -3 }, api.ErrRange},
		{"most letters", func(a *api.Auto) { a.Letters = 8 }, api.OK},
		{"letters above", func(a *api.Auto) { a.Letters = 9 }, api.ErrRange},
		{"good missing", func(a *api.Auto) { a.Good = nil }, api.ErrForm},
		{"good too few", func(a *api.Auto) { a.Good = a.Good[:1] }, api.ErrForm},
		{"good too many", func(a *api.Auto) { a.Good = append(a.Good, true) }, api.ErrForm},
		{"most steps", func(a *api.Auto) { *a = greatest() }, api.OK},
		{"steps above", func(a *api.Auto) { *a = greatest(); a.Steps = append(a.Steps, step(299, 7, 300)) }, api.ErrMany},
		{"first no state", func(a *api.Auto) { a.First = []int{2} }, api.ErrNone},
		{"first below 0", func(a *api.Auto) { a.First = []int{-1} }, api.ErrNone},
		{"first falls", func(a *api.Auto) { a.First = []int{1, 0} }, api.ErrState},
		{"first twice", func(a *api.Auto) { a.First = []int{1, 1} }, api.ErrState},
		{"from no state", func(a *api.Auto) { a.Steps[3].From = 2 }, api.ErrNone},
		{"from below 0", func(a *api.Auto) { a.Steps[0].From = -1 }, api.ErrNone},
		{"to no state", func(a *api.Auto) { a.Steps[3].To = 2 }, api.ErrNone},
		{"to below 0", func(a *api.Auto) { a.Steps[0].To = -1 }, api.ErrNone},
		{"no letter", func(a *api.Auto) { a.Steps[3].Letter = 2 }, api.ErrNone},
		{"letter below 0", func(a *api.Auto) { a.Steps[0].Letter = -1 }, api.ErrNone},
		{"step twice", func(a *api.Auto) { a.Steps[1] = a.Steps[0] }, api.ErrState},
		{"from falls", func(a *api.Auto) { a.Steps = []api.Step{step(1, 0, 0), step(0, 1, 1)} }, api.ErrState},
		{"letter falls", func(a *api.Auto) { a.Steps = []api.Step{step(0, 1, 0), step(0, 0, 1)} }, api.ErrState},
		{"to falls", func(a *api.Auto) { a.Steps = []api.Step{step(0, 1, 1), step(0, 1, 0)} }, api.ErrState},
		{"to falls, letter rises", func(a *api.Auto) { a.Steps = []api.Step{step(0, 0, 1), step(0, 1, 0)} }, api.OK},
	} {
		checkAll(t, c.name, c.turn, c.want)
	}
}

// A1, P1: where several apply, the one that is named first.
func TestCheckOrder(t *testing.T) {
	for _, c := range []struct {
		name string
		turn func(a *api.Auto)
		want api.Errno
	}{
		{"range, form", func(a *api.Auto) { a.States = 301; a.Good = nil }, api.ErrRange},
		{"range of letters, form", func(a *api.Auto) { a.Letters = 0; a.Good = nil }, api.ErrRange},
		{"form, many", func(a *api.Auto) { a.Good = nil; a.Steps = make([]api.Step, 6001) }, api.ErrForm},
		{"many, first", func(a *api.Auto) { a.Steps = make([]api.Step, 6001); a.First = []int{9} }, api.ErrMany},
		{"first falls, then is none", func(a *api.Auto) { a.First = []int{1, 0, 7} }, api.ErrNone},
		{"first falls, step is none", func(a *api.Auto) { a.First = []int{1, 0}; a.Steps[0].To = 9 }, api.ErrState},
		{"first is none, step falls", func(a *api.Auto) { a.First = []int{2}; a.Steps[1] = a.Steps[0] }, api.ErrNone},
		{"step falls, later one is none", func(a *api.Auto) { a.Steps[1] = a.Steps[0]; a.Steps[2].To = 9 }, api.ErrState},
		{"step is none, later one falls", func(a *api.Auto) { a.Steps[1].To = 9; a.Steps[3] = a.Steps[2] }, api.ErrNone},
		{"step is none and falls", func(a *api.Auto) { a.Steps[1] = step(0, 0, -1) }, api.ErrNone},
	} {
		checkAll(t, c.name, c.turn, c.want)
	}
}

// checkAll: what Check tells, Print and Trim tell too, with nothing else.
func checkAll(t *testing.T, name string, turn func(*api.Auto), want api.Errno) {
	t.Helper()
	a := sample()
	turn(&a)
	if got := auto.Check(a); got != want {
		t.Errorf("%s: Check %d, want %d", name, got, want)
	}
	text, e := auto.Print(a)
	if e != want || (text == "") != (want != api.OK) {
		t.Errorf("%s: Print %.40q %d, want %d", name, text, e, want)
	}
	out, e := auto.Trim(a)
	if e != want || (out.States == 0) != (want != api.OK) || want != api.OK && !same(out, api.Auto{}) {
		t.Errorf("%s: Trim %v %d, want %d", name, out, e, want)
	}
}

// A2.
func TestPrint(t *testing.T) {
	for _, c := range []struct {
		a    api.Auto
		want string
	}{
		{api.Auto{States: 1, Letters: 1, First: []int{0}, Good: []bool{true}, Steps: []api.Step{step(0, 0, 0)}},
			"states 1 letters 1\nfirst 0\ngood 0\n0 0 0\n"},
		{api.Auto{States: 1, Letters: 8, Good: []bool{false}}, "states 1 letters 8\nfirst\ngood\n"},
		{sample(), sampleText},
		{api.Auto{States: 12, Letters: 2, First: []int{0, 2, 11}, Good: []bool{11: true, 3: true, 0: true}, Steps: []api.Step{step(10, 1, 11)}},
			"states 12 letters 2\nfirst 0 2 11\ngood 0 3 11\n10 1 11\n"},
	} {
		got, e := auto.Print(c.a)
		if got != c.want || e != api.OK {
			t.Errorf("Print(%v) = %q %d, want %q", c.a, got, e, c.want)
		}
	}
}

// A3: what is of its form.
func TestParse(t *testing.T) {
	a, line, e := auto.Parse(sampleText)
	if !same(a, sample()) || line != 0 || e != api.OK {
		t.Errorf("Parse = %v %d %d", a, line, e)
	}
	a, line, e = auto.Parse("states 3 letters 8\nfirst\ngood\n")
	if want := (api.Auto{States: 3, Letters: 8, Good: make([]bool, 3)}); !same(a, want) || line != 0 || e != api.OK {
		t.Errorf("Parse = %v %d %d", a, line, e)
	}
}

// A3: errors, and where.
func TestParseErrors(t *testing.T) {
	const top = "states 2 letters 2\nfirst 0\ngood 1\n"
	for _, c := range []struct {
		text string
		line int
		want api.Errno
	}{
		{"", 1, api.ErrForm}, {"\n", 1, api.ErrForm}, {"x", 1, api.ErrForm}, {"states 1 letters 1", 1, api.ErrForm},
		{"states 1 letters 1\r\nfirst\ngood\n", 1, api.ErrForm}, {" states 1 letters 1\nfirst\ngood\n", 1, api.ErrForm},
		{"states 1 letters 1 \nfirst\ngood\n", 1, api.ErrForm}, {"states  1 letters 1\nfirst\ngood\n", 1, api.ErrForm},
		{"states 1 letters\nfirst\ngood\n", 1, api.ErrForm}, {"states 1 letter 1\nfirst\ngood\n", 1, api.ErrForm},
		{"States 1 letters 1\nfirst\ngood\n", 1, api.ErrForm}, {"states 1\tletters 1\nfirst\ngood\n", 1, api.ErrForm},
		{"states -1 letters 1\nfirst\ngood\n", 1, api.ErrForm}, {"states +1 letters 1\nfirst\ngood\n", 1, api.ErrForm},
		{"states 0 letters 1\nfirst\ngood\n", 1, api.ErrForm}, {"states 301 letters 1\nfirst\ngood\n", 1, api.ErrForm},
		{"states 01 letters 1\nfirst\ngood\n", 1, api.ErrForm}, {"states 1 letters 01\nfirst\ngood\n", 1, api.ErrForm},
		{"states 1 letters 1234567\nfirst\ngood\n", 1, api.ErrForm}, {"states 1234567 letters 1\nfirst\ngood\n", 1, api.ErrForm},
		{"states 300 letters 1\nfirst\ngood 299\n", 0, api.OK},
		{"states 1 letters 123456\nfirst\ngood\n", 0, api.ErrRange}, {"states 1 letters 0\nfirst\ngood\n", 0, api.ErrRange},
		{"states 1 letters 9\nfirst\ngood\n", 0, api.ErrRange}, {"states 1 letters 9\nfirst\ngoods\n", 3, api.ErrForm},
		{"states 2 letters 2\n", 2, api.ErrForm}, {"states 2 letters 2\n\ngood\n", 2, api.ErrForm},
		{"states 2 letters 2\nfirst \ngood\n", 2, api.ErrForm}, {"states 2 letters 2\nfirst", 2, api.ErrForm},
		{"states 2 letters 2\nfirst0\ngood\n", 2, api.ErrForm}, {"states 2 letters 2\nfirst 00\ngood\n", 2, api.ErrForm},
		{"states 2 letters 2\nfirst 0  1\ngood\n", 2, api.ErrForm}, {"states 2 letters 2\ngood\nfirst\n", 2, api.ErrForm},
		{"states 2 letters 2\nfirst 1234567\ngood\n", 2, api.ErrForm}, {"states 2 letters 2\nfirst x\ngood\n", 2, api.ErrForm},
		{"states 2 letters 2\nfirst 2\ngood\n", 0, api.ErrNone}, {"states 2 letters 2\nfirst 123456\ngood\n", 0, api.ErrNone},
		{"states 2 letters 2\nfirst 1 0\ngood\n", 0, api.ErrState}, {"states 2 letters 2\nfirst 0 0\ngood\n", 0, api.ErrState},
		{"states 2 letters 2\nfirst 1 0\ngood 2\n", 3, api.ErrForm},
		{"states 2 letters 2\nfirst 0\n", 3, api.ErrForm}, {"states 2 letters 2\nfirst 0\ngood", 3, api.ErrForm},
		{"states 2 letters 2\nfirst 0\ngood 2\n", 3, api.ErrForm}, {"states 2 letters 2\nfirst 0\ngood 1 0\n", 3, api.ErrForm},
		{"states 2 letters 2\nfirst 0\ngood 0 0\n", 3, api.ErrForm}, {"states 2 letters 2\nfirst 0\ngood 999999\n", 3, api.ErrForm},
		{"states 2 letters 2\nfirst 0\ngood \n", 3, api.ErrForm}, {"states 2 letters 2\nfirst 0\nbad\n", 3, api.ErrForm},
		{top + "\n", 4, api.ErrForm}, {top + "0 0 0", 4, api.ErrForm}, {top + "0 0\n", 4, api.ErrForm},
		{top + "0 0 0 0\n", 4, api.ErrForm}, {top + "0  0 0\n", 4, api.ErrForm}, {top + "0 0 0 \n", 4, api.ErrForm},
		{top + "0 0 00\n", 4, api.ErrForm}, {top + "0 0 0000001\n", 4, api.ErrForm}, {top + "0 0 \xff\n", 4, api.ErrForm},
		{top + "0 0 \x00\n", 4, api.ErrForm}, {top + "0 0 ٣\n", 4, api.ErrForm}, {top + "0 0 1e1\n", 4, api.ErrForm},
		{top + "0 0 0\n\n", 5, api.ErrForm}, {top + "9 9 9\n0 0 0\nx\n", 6, api.ErrForm},
		{top + "2 0 0\n", 0, api.ErrNone}, {top + "0 2 0\n", 0, api.ErrNone}, {top + "0 0 2\n", 0, api.ErrNone},
		{top + "0 0 0\n0 0 0\n", 0, api.ErrState}, {top + "0 1 0\n0 0 0\n", 0, api.ErrState},
		{top + strings.Repeat("0 0 0\n", 6000), 0, api.ErrState}, {top + strings.Repeat("0 0 0\n", 6001), 0, api.ErrMany},
	} {
		a, line, e := auto.Parse(c.text)
		if line != c.line || e != c.want || e != api.OK && !same(a, api.Auto{}) {
			t.Errorf("Parse(%.70q) = %v %d %d, want %d %d", c.text, a, line, e, c.line, c.want)
		}
	}
}

// A3: as many bytes as may be, and one more.
func TestParseLong(t *testing.T) {
	text := "states 300 letters 1\nfirst\ngood\n"
	text += strings.Repeat("x", 100000-len(text))
	if _, line, e := auto.Parse(text); line != 4 || e != api.ErrForm {
		t.Errorf("100000 bytes: %d %d", line, e)
	}
	if _, line, e := auto.Parse(text + "x"); line != 0 || e != api.ErrMany {
		t.Errorf("100001 bytes: %d %d", line, e)
	}
}

// A4.
func TestTrim(t *testing.T) {
	for _, c := range []struct{ name, text, want string }{
		{"all are come to", sampleText, sampleText},
		{"no first", "states 3 letters 4\nfirst\ngood 0 1\n0 0 0\n0 1 2\n", "states 1 letters 4\nfirst\ngood\n"},
		{"only first", "states 3 letters 2\nfirst 1\ngood 0 1 2\n0 0 1\n2 1 1\n", "states 1 letters 2\nfirst 0\ngood 0\n"},
		{"numbered anew in order", "states 5 letters 3\nfirst 4\ngood 1 2\n0 0 4\n2 0 2\n2 2 4\n3 0 0\n4 1 2\n4 2 4\n",
			"states 2 letters 3\nfirst 1\ngood 0\n0 0 0\n0 2 1\n1 1 0\n1 2 1\n"},
		{"more than one first", "states 6 letters 1\nfirst 1 5\ngood 5\n1 0 3\n2 0 4\n5 0 5\n",
			"states 3 letters 1\nfirst 0 2\ngood 2\n0 0 1\n2 0 2\n"},
	} {
		a, _, e := auto.Parse(c.text)
		if e != api.OK {
			t.Fatal(c.name, e)
		}
		out, e := auto.Trim(a)
		got, e2 := auto.Print(out)
		if e != api.OK || e2 != api.OK || got != c.want {
			t.Errorf("%s: %q %d %d, want %q", c.name, got, e, e2, c.want)
		}
	}
}

// A4: a row of states, each come to only over all ahead of it.
func TestTrimRow(t *testing.T) {
	a := api.Auto{States: 300, Letters: 1, First: []int{1}, Good: make([]bool, 300), Steps: []api.Step{step(0, 0, 1)}}
	for s := 1; s < 299; s++ {
		a.Steps = append(a.Steps, step(s, 0, s+1))
	}
	out, e := auto.Trim(a)
	if e != api.OK || out.States != 299 || len(out.Good) != 299 || len(out.Steps) != 298 || out.First[0] != 0 || auto.Check(out) != api.OK {
		t.Errorf("%v %d", out, e)
	}
}

// A5: what is printed is parsed as it was.
func TestPrintedIsParsed(t *testing.T) {
	all := []api.Auto{sample(), greatest()}
	d := draw(1)
	for range 300 {
		all = append(all, d.auto(1+d.n(12), 1+d.n(8), 1+d.n(9)))
	}
	for _, a := range all {
		text, e := auto.Print(a)
		b, line, f := auto.Parse(text)
		if e != api.OK || line != 0 || f != api.OK || !same(a, b) {
			t.Errorf("%v: %d, %v %d %d", a, e, b, line, f)
		}
	}
}

// A5: nothing else is: a text with a byte turned, left out or put in is that of another automaton, or of none.
func TestNothingElseIsParsed(t *testing.T) {
	for at := range len(sampleText) + 1 {
		for _, b := range []string{"", "0", "1", "2", "x", " ", "\n", "\r", "\x00", "\xff", "-"} {
			onlyAsPrinted(t, sampleText[:at]+b+sampleText[at:])
			if at < len(sampleText) {
				onlyAsPrinted(t, sampleText[:at]+b+sampleText[at+1:])
			}
		}
	}
}

func onlyAsPrinted(t *testing.T, text string) {
	t.Helper()
	a, line, e := auto.Parse(text)
	if e != api.OK {
		if !same(a, api.Auto{}) || (line == 0) == (e == api.ErrForm) {
			t.Errorf("Parse(%q) = %v %d %d", text, a, line, e)
		}
		return
	}
	if got, e := auto.Print(a); got != text || e != api.OK || line != 0 {
		t.Errorf("%q is parsed, at %d, but printed as %q %d", text, line, got, e)
	}
}

// P1: none panics, whatever it is handed.
func TestHostile(t *testing.T) {
	const far = int(^uint(0) >> 1)
	for _, n := range []int{-far - 1, -1, 0, 1, 2, 300, 301, far} {
		for i := range 7 {
			a := sample()
			fields := []*int{&a.States, &a.Letters, &a.First[0], &a.Steps[0].From, &a.Steps[1].Letter, &a.Steps[3].To, &a.Steps[3].From}
			*fields[i] = n
			want := auto.Check(a)
			if _, e := auto.Print(a); e != want {
				t.Errorf("Print %d, want %d", e, want)
			}
			if _, e := auto.Trim(a); e != want {
				t.Errorf("Trim %d, want %d", e, want)
			}
		}
	}
}

// P2: what is handed in stays as it is, the spare room too, and is not kept.
func TestMemory(t *testing.T) {
	make2 := func() api.Auto {
		a, _, _ := auto.Parse("states 4 letters 2\nfirst 1 3\ngood 1 3\n0 0 1\n1 1 3\n3 0 1\n")
		a.First = append(make([]int, 0, 9), a.First...)
		a.Good = append(make([]bool, 0, 9), a.Good...)
		a.Steps = append(make([]api.Step, 0, 9), a.Steps...)
		return a
	}
	whole := func(a api.Auto) []any { return []any{a, a.First[:9], a.Good[:9], a.Steps[:9]} }
	a := make2()
	out, _ := auto.Trim(a)
	auto.Check(a)
	auto.Print(a)
	if !reflect.DeepEqual(whole(a), whole(make2())) {
		t.Error("what was handed in has changed")
	}
	before, _ := auto.Print(out)
	clear(a.First)
	clear(a.Good)
	clear(a.Steps)
	if after, _ := auto.Print(out); after != before {
		t.Error("what was handed in is kept")
	}
	// whoever changes an answer changes nothing else
	clear(out.First[:cap(out.First)])
	clear(out.Good[:cap(out.Good)])
	clear(out.Steps[:cap(out.Steps)])
	again, _ := auto.Trim(make2())
	if text, _ := auto.Print(again); text != before {
		t.Error("a later answer has changed")
	}
}

// A2, A3: all numbers that may stand in a text, written as strconv would.
func TestNumbers(t *testing.T) {
	for n := range 300 {
		text := "states 300 letters 1\nfirst " + strconv.Itoa(n) + "\ngood " + strconv.Itoa(n) + "\n"
		a, _, e := auto.Parse(text)
		if e != api.OK || len(a.First) != 1 || a.First[0] != n || !a.Good[n] {
			t.Errorf("%d: %v %d", n, a.First, e)
		}
	}
}
