package auto

import (
	"lassowork/api"
	"lassowork/steps"
)

// reached tells of each state whether it can be come to from First.
func reached(a api.Auto) []bool {
	met := make([]bool, a.States)
	var todo []int
	meet := func(s int) {
		if !met[s] {
			met[s] = true
			todo = append(todo, s)
		}
	}
	for _, s := range a.First {
		meet(s)
	}
	for len(todo) > 0 {
		here := todo[len(todo)-1]
		todo = todo[:len(todo)-1]
		for s := range steps.From(a, here) {
			meet(s.To)
		}
	}
	return met
}

// only the states that are kept, numbered anew. Whatever First or a step from a kept state leads to must be kept too. Numbers keep their order, so First and the steps stay in theirs.
func only(a api.Auto, kept []bool) api.Auto {
	out := api.Auto{Letters: a.Letters}
	number := make([]int, a.States)
	for s, keep := range kept {
		if keep {
			number[s] = out.States
			out.States++
			out.Good = append(out.Good, a.Good[s])
		}
	}
	for _, s := range a.First {
		out.First = append(out.First, number[s])
	}
	for _, s := range a.Steps {
		if kept[s.From] {
			out.Steps = append(out.Steps, api.Step{From: number[s.From], Letter: s.Letter, To: number[s.To]})
		}
	}
	return out
}
