package steps_test

import (
	"slices"
	"testing"

	"lassowork/api"
	"lassowork/steps"
)

func step(from, letter, to int) api.Step { return api.Step{From: from, Letter: letter, To: to} }

func sample() api.Auto {
	return api.Auto{States: 4, Letters: 2, Good: make([]bool, 4), Steps: []api.Step{
		step(0, 0, 1), step(0, 1, 0), step(0, 1, 2), step(0, 1, 3), step(2, 0, 0), step(3, 1, 3)}}
}

func TestOrder(t *testing.T) {
	rising := []api.Step{step(0, 0, 0), step(0, 0, 7), step(0, 1, 3), step(1, 0, 0), step(1, 5, 2), step(2, 0, 0)}
	for i, a := range rising {
		for j, b := range rising {
			got := steps.Order(a, b)
			if (got < 0) != (i < j) || (got == 0) != (i == j) {
				t.Errorf("Order(%v, %v) = %d", a, b, got)
			}
		}
	}
}

func TestFrom(t *testing.T) {
	a := sample()
	for state, want := range [][]api.Step{a.Steps[:4], nil, a.Steps[4:5], a.Steps[5:]} {
		if got := slices.Collect(steps.From(a, state)); !slices.Equal(got, want) {
			t.Errorf("From(%d) = %v, want %v", state, got, want)
		}
	}
}

func TestStopsWhenToldTo(t *testing.T) {
	count := 0
	for range steps.From(sample(), 0) {
		if count++; count == 2 {
			break
		}
	}
	if count != 2 {
		t.Errorf("gone through %d steps, want 2", count)
	}
}
