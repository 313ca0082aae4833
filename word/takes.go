package word

import (
	"slices"

	"lassowork/api"
	"lassowork/steps"
)

// run is an automaton that goes by a word.
type run struct {
	auto  api.Auto
	word  api.Lasso
	leads [][api.MaxLetters]states // by state and letter: where steps lead
}

func newRun(a api.Auto, l api.Lasso) run {
	r := run{a, l, make([][api.MaxLetters]states, a.States)}
	for from := range r.leads {
		for s := range steps.From(a, from) {
			r.leads[from][s.Letter] = r.leads[from][s.Letter].with(s.To)
		}
	}
	return r
}

// spot of a word: a place of Head and then of Loop, and the state in which the automaton is when it reads the letter there.
type spot struct{ place, state int }

// met has, by place, the states in which the automaton was met there: a set for a place, not an entry for a spot, since all steps from one spot lead to one place.
type met map[int]states

func (m met) has(p spot) bool { return m[p.place].has(p.state) }

func (m met) add(p spot) { m[p.place] = m[p.place].with(p.state) }

// takes looks for a good spot, come to from a first one, that leads back to itself: there are only so many spots, so a run that comes to good states without an end comes to one of its good spots again.
//
// The inner searches share what they met, so that each spot is gone through once. That is right: a seed is asked about when all behind it were, but for what is only come to over the path to it; so if a seed of a later search can be come to from it, it leads back to itself, and its own search was not in vain.
func (r run) takes() bool {
	outer, inner := met{}, met{}
	return slices.ContainsFunc(r.auto.First, func(state int) bool {
		return r.search(spot{0, state}, outer, func(seed spot) bool {
			return r.auto.Good[seed.state] && r.search(seed, inner, func(p spot) bool {
				return r.next(p.place) == seed.place && r.after(p).has(seed.state)
			})
		})
	})
}

// search goes, as deep as it can first, through the spots that can be come to from one and were not met before, till what is looked for is found. A spot is asked about when all behind it were.
func (r run) search(from spot, seen met, found func(spot) bool) bool {
	if seen.has(from) {
		return false
	}
	seen.add(from)
	path := []spot{from}
	for len(path) > 0 {
		last := path[len(path)-1]
		if next, ok := r.unmet(last, seen); ok {
			seen.add(next)
			path = append(path, next)
			continue
		}
		if found(last) {
			return true
		}
		path = path[:len(path)-1]
	}
	return false
}

// unmet is a spot not met before to which a step leads; false, if there is none.
func (r run) unmet(p spot, seen met) (spot, bool) {
	place := r.next(p.place)
	state, ok := r.after(p).without(seen[place])
	return spot{place, state}, ok
}

// after a spot: the states to which a step leads from there.
func (r run) after(p spot) states { return r.leads[p.state][letterAt(r.word, p.place)] }

// next place: behind the last one of Loop its first one stands again.
func (r run) next(place int) int {
	if place+1 == len(r.word.Head)+len(r.word.Loop) {
		return len(r.word.Head)
	}
	return place + 1
}
