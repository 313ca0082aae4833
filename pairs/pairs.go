// Package pairs: two automata, and one whose states are pairs of theirs.
package pairs

import (
	"iter"

	"lassowork/api"
	"lassowork/auto"
	"lassowork/nodes"
	"lassowork/steps"
)

// Check a, then b; ErrForm, if they have not as many letters.
func Check(a, b api.Auto) api.Errno {
	if e := auto.Check(a); e != api.OK {
		return e
	}
	if e := auto.Check(b); e != api.OK {
		return e
	}
	if a.Letters != b.Letters {
		return api.ErrForm
	}
	return api.OK
}

// pair of states of a and b, and whether a good state of b is waited for, or one of a.
type pair struct {
	a, b  int
	waits bool
}

// Auto takes the words that both take: a and b go by the same word. Good states of both come without an end just if those that are waited for, of a and of b by turns, do; so it is good where one of a, waited for, is come to. There are at most twice as many pairs as a's states times b's; no limit is held.
func Auto(a, b api.Auto) api.Auto {
	var first []pair
	for _, s := range a.First {
		for _, t := range b.First {
			first = append(first, pair{a: s, b: t})
		}
	}
	good := func(p pair) bool { return !p.waits && a.Good[p.a] }
	return nodes.Auto(a.Letters, first, good, func(p pair) iter.Seq2[int, pair] {
		waits := good(p) || p.waits && !b.Good[p.b]
		return func(yield func(int, pair) bool) {
			for s := range steps.From(a, p.a) {
				for t := range steps.From(b, p.b) {
					if s.Letter == t.Letter && !yield(s.Letter, pair{s.To, t.To, waits}) {
						return
					}
				}
			}
		}
	})
}
