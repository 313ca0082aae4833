// Package find: a word that an automaton takes.
package find

import (
	"slices"

	"lassowork/api"
	"lassowork/steps"
)

// Word that an automaton takes: its Head leads to a good state, and its Loop from there back to it; both have not more letters than there are states. There is such a state, if any word is taken: good states come without an end, and there are only so many. The automaton must be as auto.Check asks, but may have any number of states and steps.
func Word(a api.Auto) (api.Lasso, bool) {
	var loop []int
	leadsBack := func(state int) bool {
		if !a.Good[state] {
			return false
		}
		back, ok := way(a, []int{state}, func(to int) bool { return to == state })
		loop = back
		return ok
	}
	if slices.ContainsFunc(a.First, leadsBack) {
		return api.Lasso{Loop: loop}, true
	}
	head, ok := way(a, a.First, leadsBack)
	if !ok {
		return api.Lasso{}, false
	}
	return api.Lasso{Head: head, Loop: loop}, true
}

// way of letters, at least one, and as few as can be, from one of some states to one that is looked for. By its steps no state is come to twice, so there are not more letters than states.
func way(a api.Auto, from []int, found func(state int) bool) ([]int, bool) {
	met := make([]bool, a.States)
	by := make([]api.Step, a.States) // the step by which a state was come to first
	todo := slices.Clone(from)
	for at := 0; at < len(todo); at++ {
		for s := range steps.From(a, todo[at]) {
			if met[s.To] {
				continue
			}
			met[s.To], by[s.To] = true, s
			if found(s.To) {
				return back(by, from, s.To), true
			}
			todo = append(todo, s.To)
		}
	}
	return nil, false
}

// back from where a way ends to where it began: its letters, from its beginning on.
func back(by []api.Step, from []int, end int) []int {
	letters := []int{by[end].Letter}
	for at := by[end].From; !slices.Contains(from, at); at = by[at].From {
		letters = append(letters, by[at].Letter)
	}
	slices.Reverse(letters)
	return letters
}
