package model

import (
	"slices"

	"lassowork/api"
)

func areLabels(m api.Model) bool {
	return !slices.ContainsFunc(m.Labels, func(label int) bool { return label < 0 || label>>m.Props != 0 })
}

func areStates(m api.Model, list []int) bool {
	return !slices.ContainsFunc(list, func(state int) bool { return state < 0 || state >= len(m.Labels) })
}

// words that a model goes by. All states are good, since it may go on as it likes, if only without an end.
func words(m api.Model) api.Auto {
	a := api.Auto{States: len(m.Labels), Letters: 1 << api.MaxProps, First: rising(m.First)}
	for state, label := range m.Labels {
		a.Good = append(a.Good, true)
		for _, to := range rising(m.Steps[state]) {
			a.Steps = append(a.Steps, api.Step{From: state, Letter: label, To: to})
		}
	}
	return a
}

// rising: each number of a list once.
func rising(list []int) []int {
	return slices.Compact(slices.Sorted(slices.Values(list)))
}
