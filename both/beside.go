package both

import (
	"slices"

	"lassowork/api"
)

// beside: the states of a, and behind them those of b: since it may begin in several states, it needs no other one.
func beside(a, b api.Auto) api.Auto {
	out := api.Auto{
		States:  a.States + b.States,
		Letters: a.Letters,
		First:   slices.Clone(a.First),
		Good:    slices.Concat(a.Good, b.Good),
		Steps:   slices.Clone(a.Steps),
	}
	for _, s := range b.First {
		out.First = append(out.First, a.States+s)
	}
	for _, s := range b.Steps {
		out.Steps = append(out.Steps, api.Step{From: a.States + s.From, Letter: s.Letter, To: a.States + s.To})
	}
	return out
}
