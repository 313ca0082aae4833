// Package word: words: see doc/02-word.md.
package word

import (
	"slices"

	"lassowork/api"
	"lassowork/auto"
)

// Check a lasso.
func Check(l api.Lasso, letters int) api.Errno {
	if letters < 1 || letters > api.MaxLetters {
		return api.ErrRange
	}
	if len(l.Head) > api.MaxHead || len(l.Loop) > api.MaxLoop {
		return api.ErrMany
	}
	if len(l.Loop) == 0 {
		return api.ErrForm
	}
	none := func(letter int) bool { return letter < 0 || letter >= letters }
	if slices.ContainsFunc(l.Head, none) || slices.ContainsFunc(l.Loop, none) {
		return api.ErrNone
	}
	return api.OK
}

// Least lasso of a word.
func Least(l api.Lasso, letters int) (api.Lasso, api.Errno) {
	if e := Check(l, letters); e != api.OK {
		return api.Lasso{}, e
	}
	loop := period(l.Loop)
	head := len(l.Head)
	for head > 0 && letterAt(l, head-1) == letterAt(l, head-1+loop) {
		head--
	}
	return api.Lasso{Head: piece(l, 0, head), Loop: piece(l, head, loop)}, api.OK
}

// At a place.
func At(l api.Lasso, letters, i int) (int, api.Errno) {
	if e := Check(l, letters); e != api.OK {
		return 0, e
	}
	if i < 0 {
		return 0, api.ErrRange
	}
	return letterAt(l, i), api.OK
}

// Takes: does an automaton take a word?
func Takes(a api.Auto, l api.Lasso) (bool, api.Errno) {
	if e := auto.Check(a); e != api.OK {
		return false, e
	}
	if e := Check(l, a.Letters); e != api.OK {
		return false, e
	}
	return newRun(a, l).takes(), api.OK
}

// letterAt place i, which is not below 0.
func letterAt(l api.Lasso, i int) int {
	if i < len(l.Head) {
		return l.Head[i]
	}
	return l.Loop[(i-len(l.Head))%len(l.Loop)]
}

// piece of a word: count letters from a place on.
func piece(l api.Lasso, from, count int) []int {
	out := make([]int, count)
	for i := range out {
		out[i] = letterAt(l, from+i)
	}
	return out
}

// period is the length of the shortest list that, again and again, makes up the loop.
func period(loop []int) int {
	n := len(loop)
	for p := 1; p < n; p++ {
		if n%p == 0 && slices.Equal(loop[p:], loop[:n-p]) {
			return p
		}
	}
	return n
}
