package include

import (
	"slices"

	"lassowork/api"
)

// alone: a word that a takes and b does not; false, if there is none. If there is such a word, there is such a lasso, and whether it is taken hangs only on what is noted here of the boxes of its Head and its Loop: so all are tried.
//
// Shorter words come first. So Head has fewer letters than there are pairs of sets, and no Loop could be shorter: both are far below their limits. Loop has letters: of the word without any, no mark is good.
func alone(a, b api.Auto) (api.Lasso, bool) {
	met := boxes(a, b)
	heads := noted(met, func(x box) pair { return pair{x[0].leads(a.First), x[1].leads(b.First)} })
	loops := noted(met, func(x box) pair { return pair{x[0].takes(), x[1].takes()} })
	for _, loop := range loops {
		for _, head := range heads {
			if head.sets.a.meets(loop.sets.a) && !head.sets.b.meets(loop.sets.b) {
				return api.Lasso{Head: spell(met, head.number), Loop: spell(met, loop.number)}, true
			}
		}
	}
	return api.Lasso{}, false
}

// entry: a box, and a shortest word that has it: that of an entry ahead of it (by its number), and a letter behind it.
type entry struct {
	box    box
	ahead  int
	letter int
}

// boxes of all words, those of the shortest first. Each has only so many marks, so there is an end: with three states and two letters an automaton has some 250 tables at most, and both together have some thousands of boxes.
func boxes(a, b api.Auto) []entry {
	var letters []box
	for letter := range a.Letters {
		letters = append(letters, box{tableOf(a, letter), tableOf(b, letter)})
	}
	var met []entry
	number := map[box]int{}
	note := func(e entry) {
		if _, ok := number[e.box]; !ok {
			number[e.box] = len(met)
			met = append(met, e)
		}
	}
	note(entry{box: nothing()})
	for at := 0; at < len(met); at++ {
		for letter, one := range letters {
			note(entry{met[at].box.then(one), at, letter})
		}
	}
	return met
}

// spell the word of an entry. Number 0 has no letters.
func spell(met []entry, number int) []int {
	var word []int
	for ; number > 0; number = met[number].ahead {
		word = append(word, met[number].letter)
	}
	slices.Reverse(word)
	return word
}

// pair of sets of states, of a and of b.
type pair struct{ a, b set }

// remark: a pair of sets, and the number of the first entry of which it was noted.
type remark struct {
	sets   pair
	number int
}

// noted: what is noted of the boxes, each pair once.
func noted(met []entry, what func(box) pair) []remark {
	var all []remark
	seen := map[pair]int{}
	for number, e := range met {
		sets := what(e.box)
		if _, ok := seen[sets]; !ok {
			seen[sets] = number
			all = append(all, remark{sets, number})
		}
	}
	return all
}
