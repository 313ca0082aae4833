// Package auto: automata: see doc/01-auto.md.
package auto

import (
	"slices"

	"lassowork/api"
	"lassowork/steps"
)

// Check an automaton.
func Check(a api.Auto) api.Errno {
	if a.States < 1 || a.States > api.MaxStates || a.Letters < 1 || a.Letters > api.MaxLetters {
		return api.ErrRange
	}
	if len(a.Good) != a.States {
		return api.ErrForm
	}
	if len(a.Steps) > api.MaxSteps {
		return api.ErrMany
	}
	if e := checkFirst(a); e != api.OK {
		return e
	}
	return checkSteps(a)
}

func checkFirst(a api.Auto) api.Errno {
	if slices.ContainsFunc(a.First, func(s int) bool { return !within(s, a.States) }) {
		return api.ErrNone
	}
	for i := 1; i < len(a.First); i++ {
		if a.First[i-1] >= a.First[i] {
			return api.ErrState
		}
	}
	return api.OK
}

func checkSteps(a api.Auto) api.Errno {
	for i, s := range a.Steps {
		if !within(s.From, a.States) || !within(s.To, a.States) || !within(s.Letter, a.Letters) {
			return api.ErrNone
		}
		if i > 0 && steps.Order(a.Steps[i-1], s) >= 0 {
			return api.ErrState
		}
	}
	return api.OK
}

// within: is n one of the numbers from 0 on that there are count of?
func within(n, count int) bool { return 0 <= n && n < count }

// Print an automaton.
func Print(a api.Auto) (string, api.Errno) {
	if e := Check(a); e != api.OK {
		return "", e
	}
	return write(a), api.OK
}

// Parse an automaton.
func Parse(s string) (api.Auto, int, api.Errno) {
	if len(s) > maxText {
		return api.Auto{}, 0, api.ErrMany
	}
	a, wrong := read(s)
	if wrong != 0 {
		return api.Auto{}, wrong, api.ErrForm
	}
	if e := Check(a); e != api.OK {
		return api.Auto{}, 0, e
	}
	return a, 0, api.OK
}

// Trim an automaton.
func Trim(a api.Auto) (api.Auto, api.Errno) {
	if e := Check(a); e != api.OK {
		return api.Auto{}, e
	}
	if len(a.First) == 0 {
		return api.Auto{States: 1, Letters: a.Letters, Good: []bool{false}}, api.OK
	}
	return only(a, reached(a)), api.OK
}
