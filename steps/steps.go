// Package steps: the order of steps of an automaton, and those from one state, one after the other.
package steps

import (
	"cmp"
	"iter"
	"slices"

	"lassowork/api"
)

// Order of two steps: by From, then Letter, then To; below 0, if a stands ahead of b.
func Order(a, b api.Step) int {
	return cmp.Or(cmp.Compare(a.From, b.From), cmp.Compare(a.Letter, b.Letter), cmp.Compare(a.To, b.To))
}

// From a state: its steps, one after the other. Those of the automaton must be in order, as auto.Check asks.
func From(a api.Auto, state int) iter.Seq[api.Step] {
	return func(yield func(api.Step) bool) {
		at, _ := slices.BinarySearchFunc(a.Steps, state, func(s api.Step, state int) int { return cmp.Compare(s.From, state) })
		for _, s := range a.Steps[at:] {
			if s.From != state || !yield(s) {
				return
			}
		}
	}
}
