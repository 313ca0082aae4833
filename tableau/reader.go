package tableau

import (
	"iter"

	"lassowork/api"
)

// reader of a word: ahead of each place it foretells what holds there, and goes on only if it does.
//
// A foretelling has nodes of Next, Until and Release: of Until and Release those that hold at the place, of Next those that held at the one ahead of it, whose A must hold now. What holds at a place hangs on its letter and on what is foretold of the next one. So of each word just one row of foretellings goes on without an end, but for those that put something off all the time: B of an Until that holds, or the end of B of a Release that does not.
type reader struct {
	formula  api.Formula
	foretold set   // all nodes of Next, Until and Release
	lasting  []int // those of Until and Release
}

// spot is where a reader is ahead of a place.
type spot struct {
	begin bool // nothing is foretold: all of the formula must hold
	told  set
	turn  int // of how many of lasting, one after the other, it was seen that they put nothing off, since it was of all
}

func newReader(f api.Formula) reader {
	r := reader{formula: f}
	for number, n := range f {
		switch n.Kind {
		case api.Until, api.Release:
			r.lasting = append(r.lasting, number)
			r.foretold = r.foretold.with(number)
		case api.Next:
			r.foretold = r.foretold.with(number)
		}
	}
	return r
}

// good: it was seen of all that they put nothing off.
func (r reader) good(s spot) bool { return s.turn == len(r.lasting) }

// after a spot: the letters that fit what was foretold, each with what may be foretold behind it.
func (r reader) after(s spot) iter.Seq2[int, spot] {
	return func(yield func(int, spot) bool) {
		for letter := range letters {
			for told := range r.foretold.parts() {
				now := r.now(letter, told)
				if r.fits(s, now) && !yield(letter, spot{told: told, turn: r.turn(s.turn, now)}) {
					return
				}
			}
		}
	}
}

// now: the nodes that hold at a place with that letter, if what is foretold of the next one is right.
func (r reader) now(letter int, next set) set {
	var now set
	for number, n := range r.formula {
		if holds(n, letter, now, next.has(number)) {
			now = now.with(number)
		}
	}
	return now
}

// holds: does a node, if those of now hold of the ones ahead of it, and that is foretold of it?
func holds(n api.Node, letter int, now set, next bool) bool {
	a, b := now.has(n.A), now.has(n.B)
	switch n.Kind {
	case api.Prop:
		return letter>>n.N&1 != 0
	case api.Not:
		return !a
	case api.And:
		return a && b
	case api.Or:
		return a || b
	case api.Next:
		return next
	case api.Until:
		return b || a && next
	case api.Release:
		return b && (a || next)
	}
	return true
}

// fits: is what holds now as it was foretold?
func (r reader) fits(s spot, now set) bool {
	if s.begin {
		return now.has(len(r.formula) - 1)
	}
	for number, n := range r.formula {
		part := number
		if n.Kind == api.Next {
			part = n.A
		}
		if r.foretold.has(number) && s.told.has(number) != now.has(part) {
			return false
		}
	}
	return true
}

// turn behind a place at which that holds. An Until holds wherever its B does, a Release only there: so they put something off just where they are not as their B is.
func (r reader) turn(turn int, now set) int {
	if turn == len(r.lasting) {
		turn = 0
	}
	for turn < len(r.lasting) {
		number := r.lasting[turn]
		if now.has(number) != now.has(r.formula[number].B) {
			break
		}
		turn++
	}
	return turn
}
