package include

import "lassowork/api"

// mark tells how a word leads from one state to another one.
type mark uint8

const (
	none mark = iota // it does not
	led              // it does
	good             // it does, and may come to a good state on its way (where it ends, but not where it begins)
)

// table of a word: a mark for each state from which, and each to which, it may lead.
type table [api.MaxInclude][api.MaxInclude]mark

// box of a word: its tables of both automata. Whether a lasso is taken hangs on the boxes of its Head and its Loop alone.
type box [2]table

// nothing is the box of the word without letters.
func nothing() box {
	var b box
	for which := range b {
		for state := range api.MaxInclude {
			b[which][state][state] = led
		}
	}
	return b
}

// tableOf a letter.
func tableOf(a api.Auto, letter int) table {
	var t table
	for _, s := range a.Steps {
		if s.Letter != letter {
			continue
		}
		t[s.From][s.To] = led
		if a.Good[s.To] {
			t[s.From][s.To] = good
		}
	}
	return t
}

// then: of a word, and behind it another one.
func (b box) then(c box) box {
	return box{b[0].then(c[0]), b[1].then(c[1])}
}

func (t table) then(u table) table {
	var out table
	for from, row := range t {
		for over, first := range row {
			for to, second := range u[over] {
				if first != none && second != none {
					out[from][to] = max(out[from][to], first, second)
				}
			}
		}
	}
	return out
}

// again: of a word once, or more often: here up to four times. Three are enough: with three states, two lead to any other one, or back from where a third came to a good one.
func (t table) again() table {
	for range 2 {
		longer := t.then(t)
		for from, row := range longer {
			for to, m := range row {
				t[from][to] = max(t[from][to], m)
			}
		}
	}
	return t
}

// leads: the states to which the word leads from some others.
func (t table) leads(from []int) set {
	var s set
	for _, state := range from {
		for to, m := range t[state] {
			if m != none {
				s = s.with(to)
			}
		}
	}
	return s
}

// takes: the states from which the word is taken again and again: those that it leads to one from which it comes back over a good one.
func (t table) takes() set {
	t = t.again()
	var s set
	for from, row := range t {
		for over, m := range row {
			if m != none && t[over][over] == good {
				s = s.with(from)
			}
		}
	}
	return s
}

// set of states: api.MaxInclude are not more than it has bits.
type set uint8

func (s set) with(state int) set { return s | 1<<state }

func (s set) meets(t set) bool { return s&t != 0 }
