package word_test

import (
	"reflect"
	"slices"
	"testing"

	"lassowork/api"
	"lassowork/auto"
	"lassowork/word"
)

func lasso(head, loop []int) api.Lasso { return api.Lasso{Head: head, Loop: loop} }

// same: alike, whether their empty lists are nil or not.
func same(a, b api.Lasso) bool {
	return slices.Equal(a.Head, b.Head) && slices.Equal(a.Loop, b.Loop)
}

// lists of at most that many letters 0 and 1.
func lists(most int) [][]int {
	all := [][]int{nil}
	for begin, length := 0, 0; length < most; length++ {
		end := len(all)
		for _, l := range all[begin:end] {
			all = append(all, append(slices.Clone(l), 0), append(slices.Clone(l), 1))
		}
		begin = end
	}
	return all
}

// lassos with at most that many letters in Head, and in Loop.
func lassos(head, loop int) []api.Lasso {
	var all []api.Lasso
	for _, h := range lists(head) {
		for _, l := range lists(loop)[1:] {
			all = append(all, lasso(h, l))
		}
	}
	return all
}

// letters at the first count places, by going on from one to the next.
func letters(l api.Lasso, count int) []int {
	all := slices.Clone(l.Head)
	for len(all) < count {
		all = append(all, l.Loop...)
	}
	return all[:count]
}

// B1: errors, edges, and which one is told, where several apply.
func TestCheck(t *testing.T) {
	long := func(n, last int) []int { return append(make([]int, n-1), last) }
	for _, c := range []struct {
		name    string
		l       api.Lasso
		letters int
		want    api.Errno
	}{
		{"right", lasso([]int{0, 1}, []int{1}), 2, api.OK},
		{"empty head", lasso([]int{}, []int{7}), 8, api.OK},
		{"no letters", lasso(nil, []int{0}), 0, api.ErrRange},
		{"letters below 0", lasso(nil, []int{0}), -1, api.ErrRange},
		{"letters above", lasso(nil, []int{0}), 9, api.ErrRange},
		{"most in head", lasso(long(4000, 1), []int{0}), 2, api.OK},
		{"more in head", lasso(long(4001, 1), []int{0}), 2, api.ErrMany},
		{"most in loop", lasso(nil, long(4000, 1)), 2, api.OK},
		{"more in loop", lasso(nil, long(4001, 1)), 2, api.ErrMany},
		{"zero", api.Lasso{}, 2, api.ErrForm},
		{"empty loop", lasso([]int{0}, []int{}), 2, api.ErrForm},
		{"head no letter", lasso([]int{0, 2}, []int{0}), 2, api.ErrNone},
		{"head below 0", lasso([]int{-1}, []int{0}), 2, api.ErrNone},
		{"loop no letter", lasso([]int{0}, []int{0, 2}), 2, api.ErrNone},
		{"loop below 0", lasso(nil, []int{-1}), 2, api.ErrNone},
		{"last one of both", lasso(long(4000, 2), long(4000, 1)), 2, api.ErrNone},
		{"range, many", lasso(long(4001, 9), nil), 0, api.ErrRange},
		{"range, form", api.Lasso{}, 9, api.ErrRange},
		{"many, form", lasso(long(4001, 0), nil), 2, api.ErrMany},
		{"many, none", lasso([]int{5}, long(4001, 5)), 2, api.ErrMany},
		{"form, none", lasso([]int{5}, nil), 2, api.ErrForm},
	} {
		if got := word.Check(c.l, c.letters); got != c.want {
			t.Errorf("%s: Check %d, want %d", c.name, got, c.want)
		}
		least, e := word.Least(c.l, c.letters)
		if e != c.want || e != api.OK && !same(least, api.Lasso{}) {
			t.Errorf("%s: Least %v %d, want %d", c.name, least, e, c.want)
		}
		at, e := word.At(c.l, c.letters, 1)
		if e != c.want || e != api.OK && at != 0 {
			t.Errorf("%s: At %d %d, want %d", c.name, at, e, c.want)
		}
		if c.want != api.OK { // ahead of a place below 0
			if at, e := word.At(c.l, c.letters, -1); at != 0 || e != c.want {
				t.Errorf("%s: At -1 %d %d, want %d", c.name, at, e, c.want)
			}
		}
	}
}

// B2.
func TestAt(t *testing.T) {
	for _, l := range lassos(3, 4) {
		for i, want := range letters(l, 30) {
			if got, e := word.At(l, 2, i); got != want || e != api.OK {
				t.Errorf("%v: At %d %d %d, want %d", l, i, got, e, want)
			}
		}
	}
	const far = int(^uint(0) >> 1)
	l := lasso([]int{3}, []int{1, 2}) // 1 at odd places
	for _, c := range []struct {
		i, want int
		e       api.Errno
	}{{0, 3, api.OK}, {1, 1, api.OK}, {2, 2, api.OK}, {far, 1, api.OK}, {far - 1, 2, api.OK}, {-1, 0, api.ErrRange}, {-far - 1, 0, api.ErrRange}} {
		if got, e := word.At(l, 4, c.i); got != c.want || e != c.e {
			t.Errorf("At %d: %d %d, want %d %d", c.i, got, e, c.want, c.e)
		}
	}
}

// B2.
func TestLeast(t *testing.T) {
	for _, c := range []struct{ l, want api.Lasso }{
		{lasso([]int{0}, []int{0, 0}), lasso(nil, []int{0})},
		{lasso(nil, []int{0, 1, 0, 1}), lasso(nil, []int{0, 1})},
		{lasso(nil, []int{0, 1, 0}), lasso(nil, []int{0, 1, 0})},
		{lasso([]int{1}, []int{0, 1}), lasso(nil, []int{1, 0})},
		{lasso([]int{0, 1}, []int{0, 1}), lasso(nil, []int{0, 1})},
		{lasso([]int{0, 0, 1, 0, 1}, []int{0, 1, 0, 1}), lasso([]int{0}, []int{0, 1})},
		{lasso([]int{7, 2}, []int{1, 2}), lasso([]int{7}, []int{2, 1})},
		{lasso([]int{0, 1, 0}, []int{0, 1, 1}), lasso([]int{0, 1, 0}, []int{0, 1, 1})},
	} {
		if got, e := word.Least(c.l, 8); !same(got, c.want) || e != api.OK {
			t.Errorf("Least %v: %v %d, want %v", c.l, got, e, c.want)
		}
	}
}

// B2, B4: of all small lassos, Least is the least of the same word, and tells the words apart.
func TestLeastOfAll(t *testing.T) {
	// beyond 3 letters of head two loops of at most 4 letters are the same, if they are for 12 letters
	const enough = 3 + 12
	least := map[[enough]int]api.Lasso{}
	all := lassos(3, 4)
	shorter := func(a, b api.Lasso) bool {
		if len(a.Loop) != len(b.Loop) {
			return len(a.Loop) < len(b.Loop)
		}
		return len(a.Head) < len(b.Head)
	}
	for _, l := range all {
		w := [enough]int(letters(l, enough))
		if old, ok := least[w]; !ok || shorter(l, old) {
			least[w] = l
		}
	}
	for _, l := range all {
		got, e := word.Least(l, 2)
		if want := least[[enough]int(letters(l, enough))]; !same(got, want) || e != api.OK {
			t.Errorf("Least %v: %v %d, want %v", l, got, e, want)
		}
	}
}

// B2: the longest lassos.
func TestLeastLong(t *testing.T) {
	odd := func(n int) []int {
		all := make([]int, n)
		for i := range all {
			all[i] = i % 2
		}
		return all
	}
	got, e := word.Least(lasso(odd(4000), odd(4000)), 2)
	if !same(got, lasso(nil, []int{0, 1})) || e != api.OK {
		t.Errorf("%v %d", got, e)
	}
	last := append(make([]int, 3999), 1)
	got, e = word.Least(lasso(last, last), 2)
	if !same(got, lasso(nil, last)) || e != api.OK {
		t.Errorf("%d %d %d", len(got.Head), len(got.Loop), e)
	}
	got, e = word.Least(lasso(make([]int, 4000), last), 2)
	if len(got.Head) != 4000 || !slices.Equal(got.Loop, last) || e != api.OK {
		t.Errorf("%d %d %d", len(got.Head), len(got.Loop), e)
	}
}

// P2: what is handed in stays as it is and is not kept; lists of an answer share no memory.
func TestMemory(t *testing.T) {
	make2 := func() api.Lasso {
		return lasso([]int{1, 0, 0, 1, 9, 9}[:4], []int{0, 1, 0, 1, 9, 9}[:4])
	}
	whole := func(l api.Lasso) [][]int { return [][]int{l.Head[:6], l.Loop[:6]} }
	l := make2()
	a := parse(t, "states 2 letters 2\nfirst 0\ngood 1\n0 0 0\n0 1 1\n1 0 0\n1 1 1\n")
	b := parse(t, "states 2 letters 2\nfirst 0\ngood 1\n0 0 0\n0 1 1\n1 0 0\n1 1 1\n")
	got, _ := word.Least(l, 2)
	word.At(l, 2, 5)
	if ok, e := word.Takes(a, l); !ok || e != api.OK {
		t.Error(ok, e)
	}
	if !reflect.DeepEqual(whole(l), whole(make2())) || !reflect.DeepEqual(a, b) {
		t.Error("what was handed in has changed")
	}
	clear(whole(l)[0])
	clear(whole(l)[1])
	if !same(got, lasso([]int{1, 0}, []int{0, 1})) {
		t.Error("what was handed in is kept", got)
	}
	got.Head = append(got.Head, 5, 5, 5)
	if !slices.Equal(got.Loop, []int{0, 1}) {
		t.Error("lists of an answer share memory", got)
	}
	got.Loop = append(got.Loop, 6, 6, 6)
	if !slices.Equal(got.Head, []int{1, 0, 5, 5, 5}) {
		t.Error("lists of an answer share memory", got)
	}
}

func parse(t *testing.T, text string) api.Auto {
	t.Helper()
	a, line, e := auto.Parse(text)
	if e != api.OK {
		t.Fatal(text, line, e)
	}
	return a
}
