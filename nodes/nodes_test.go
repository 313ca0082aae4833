package nodes_test

import (
	"iter"
	"reflect"
	"testing"

	"lassowork/api"
	"lassowork/auto"
	"lassowork/nodes"
)

type place struct{ x, y int }

// right, by letter 1, and down, by letter 0, on a field of that width, at whose edges the other side begins.
func field(width int) func(place) iter.Seq2[int, place] {
	return func(p place) iter.Seq2[int, place] {
		return func(yield func(int, place) bool) {
			if yield(1, place{(p.x + 1) % width, p.y}) {
				yield(0, place{p.x, (p.y + 1) % width})
			}
		}
	}
}

func TestAuto(t *testing.T) {
	good := func(p place) bool { return p.x == p.y }
	got := nodes.Auto(2, []place{{1, 0}, {0, 0}}, good, field(2))
	s := func(from, letter, to int) api.Step { return api.Step{From: from, Letter: letter, To: to} }
	// 0 is 1 0, 1 is 0 0; from 0 right to 1, down to 1 1; from 1 right to 0, down to 0 1
	want := api.Auto{States: 4, Letters: 2, First: []int{0, 1}, Good: []bool{false, true, true, false}, Steps: []api.Step{
		s(0, 0, 2), s(0, 1, 1), s(1, 0, 3), s(1, 1, 0), s(2, 0, 0), s(2, 1, 3), s(3, 0, 1), s(3, 1, 2)}}
	if !reflect.DeepEqual(got, want) || auto.Check(got) != api.OK {
		t.Errorf("%v, want %v", got, want)
	}
}

func TestGreat(t *testing.T) {
	got := nodes.Auto(2, []place{{3, 4}}, func(place) bool { return true }, field(30))
	if got.States != 900 || len(got.Good) != 900 || len(got.Steps) != 1800 {
		t.Errorf("%d states, %d good, %d steps", got.States, len(got.Good), len(got.Steps))
	}
}

func TestNoFirst(t *testing.T) {
	got := nodes.Auto(3, nil, func(place) bool { return true }, field(2))
	if want := (api.Auto{States: 1, Letters: 3, Good: []bool{false}}); !reflect.DeepEqual(got, want) {
		t.Errorf("%v, want %v", got, want)
	}
}
