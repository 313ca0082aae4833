package word

import (
	"math/bits"

	"lassowork/api"
)

// states is a set of states.
type states struct {
	bits [(api.MaxStates + 63) / 64]uint64
}

func (s states) has(state int) bool { return s.bits[state/64]>>(state%64)&1 != 0 }

func (s states) with(state int) states {
	s.bits[state/64] |= 1 << (state % 64)
	return s
}

// without: the first one that is not in the other set; false, if there is none.
func (s states) without(other states) (int, bool) {
	for i, w := range s.bits {
		if left := w &^ other.bits[i]; left != 0 {
			return 64*i + bits.TrailingZeros64(left), true
		}
	}
	return 0, false
}
