// Package nodes: automata whose states are nodes of any kind, numbered as they are met.
package nodes

import (
	"iter"
	"slices"

	"lassowork/api"
	"lassowork/steps"
)

// Auto begins at the first nodes and has all that can be come to from them. The first ones are told apart, and so are the letters and nodes to which after tells that steps lead from a node. No limit is held: the caller knows how many there can be.
func Auto[N comparable](letters int, first []N, good func(N) bool, after func(N) iter.Seq2[int, N]) api.Auto {
	number := map[N]int{}
	var met []N
	meet := func(n N) int {
		at, ok := number[n]
		if !ok {
			at = len(met)
			number[n] = at
			met = append(met, n)
		}
		return at
	}
	out := api.Auto{Letters: letters}
	for _, n := range first {
		out.First = append(out.First, meet(n))
	}
	for from := 0; from < len(met); from++ {
		out.Good = append(out.Good, good(met[from]))
		for letter, to := range after(met[from]) {
			out.Steps = append(out.Steps, api.Step{From: from, Letter: letter, To: meet(to)})
		}
	}
	if len(met) == 0 { // an automaton has at least one state
		out.Good = []bool{false}
	}
	out.States = len(out.Good)
	slices.SortFunc(out.Steps, steps.Order)
	return out
}
