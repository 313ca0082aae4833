package find_test

import (
	"slices"
	"testing"

	"lassowork/api"
	"lassowork/find"
)

// ring of states, the last of which is good, or none; by letter 1 alone.
func ring(states int, good bool) api.Auto {
	a := api.Auto{States: states, Letters: 2, First: []int{0}, Good: make([]bool, states)}
	for from := range states {
		a.Steps = append(a.Steps, api.Step{From: from, Letter: 1, To: (from + 1) % states})
	}
	a.Good[states-1] = good
	return a
}

func TestWord(t *testing.T) {
	got, ok := find.Word(ring(3, true))
	if !ok || !slices.Equal(got.Head, []int{1, 1}) || !slices.Equal(got.Loop, []int{1, 1, 1}) {
		t.Error(got, ok)
	}
	got, ok = find.Word(ring(3, false))
	if ok || len(got.Head)+len(got.Loop) > 0 {
		t.Error(got, ok)
	}
}

// More states than an automaton of the caller may have: no limit is held.
func TestGreat(t *testing.T) {
	got, ok := find.Word(ring(2000, true))
	if !ok || len(got.Head) != 1999 || len(got.Loop) != 2000 {
		t.Error(len(got.Head), len(got.Loop), ok)
	}
}
