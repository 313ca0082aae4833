package tableau

import "iter"

// set of nodes of a formula, by their numbers: api.MaxNodes are not more than it has bits.
type set uint16

func (s set) has(number int) bool { return s>>number&1 != 0 }

func (s set) with(number int) set { return s | 1<<number }

// parts: all sets whose nodes are in this one.
func (s set) parts() iter.Seq[set] {
	return func(yield func(set) bool) {
		for part := s; yield(part); part = (part - 1) & s {
			if part == 0 {
				return
			}
		}
	}
}
