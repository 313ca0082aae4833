package auto

import (
	"strconv"
	"strings"

	"lassowork/api"
)

// Limits of what Parse reads.
const (
	maxText   = 100000
	maxDigits = 6
)

// Words of the lines that have some.
const (
	wordStates  = "states"
	wordLetters = "letters"
	wordFirst   = "first"
	wordGood    = "good"
)

// headLines is how many lines stand ahead of the steps.
const headLines = 3

func write(a api.Auto) string {
	text := wordStates + " " + strconv.Itoa(a.States) + " " + wordLetters + " " + strconv.Itoa(a.Letters) + "\n"
	out := append([]byte(text), wordFirst...)
	out = appendNumbers(out, a.First...)
	out = append(out, wordGood...)
	out = appendNumbers(out, goodStates(a)...)
	for _, s := range a.Steps {
		out = strconv.AppendInt(out, int64(s.From), 10)
		out = appendNumbers(out, s.Letter, s.To)
	}
	return string(out)
}

// appendNumbers ends a line with these, each behind a blank.
func appendNumbers(out []byte, numbers ...int) []byte {
	for _, n := range numbers {
		out = append(out, ' ')
		out = strconv.AppendInt(out, int64(n), 10)
	}
	return append(out, '\n')
}

func goodStates(a api.Auto) []int {
	var states []int
	for s, good := range a.Good {
		if good {
			states = append(states, s)
		}
	}
	return states
}

// read answers what the lines say, and 0, or the number of the first line that is not of its form.
func read(text string) (api.Auto, int) {
	var a api.Auto
	for n := 1; n <= headLines || text != ""; n++ {
		line, rest, ended := strings.Cut(text, "\n")
		if !ended || !readLine(&a, n, strings.Split(line, " ")) {
			return api.Auto{}, n
		}
		text = rest
	}
	return a, 0
}

// readLine number n into a; false, if it is not of its form.
func readLine(a *api.Auto, n int, words []string) bool {
	switch n {
	case 1:
		return readSize(a, words)
	case 2:
		return readFirst(a, words)
	case 3:
		return readGood(a, words)
	}
	return readStep(a, words)
}

func readSize(a *api.Auto, words []string) bool {
	if len(words) != 4 || words[0] != wordStates || words[2] != wordLetters {
		return false
	}
	states, ok := number(words[1])
	letters, ok2 := number(words[3])
	a.States, a.Letters = states, letters
	return ok && ok2 && 1 <= states && states <= api.MaxStates
}

func readFirst(a *api.Auto, words []string) bool {
	first, ok := numbers(words[1:])
	a.First = first
	return ok && words[0] == wordFirst
}

func readGood(a *api.Auto, words []string) bool {
	states, ok := numbers(words[1:])
	if !ok || words[0] != wordGood {
		return false
	}
	a.Good = make([]bool, a.States)
	last := -1
	for _, s := range states {
		if s <= last || s >= a.States {
			return false
		}
		a.Good[s] = true
		last = s
	}
	return true
}

func readStep(a *api.Auto, words []string) bool {
	if len(words) != 3 {
		return false
	}
	n, ok := numbers(words)
	if !ok {
		return false
	}
	a.Steps = append(a.Steps, api.Step{From: n[0], Letter: n[1], To: n[2]})
	return true
}

// numbers of all words; false, if one is none.
func numbers(words []string) ([]int, bool) {
	var all []int
	for _, w := range words {
		n, ok := number(w)
		if !ok {
			return nil, false
		}
		all = append(all, n)
	}
	return all, true
}

// number of a word; false, if it is not written as Print would write it, or is too long.
func number(word string) (int, bool) {
	if word == "" || len(word) > maxDigits || word[0] == '0' && word != "0" {
		return 0, false
	}
	n := 0
	for i := range len(word) {
		if word[i] < '0' || word[i] > '9' {
			return 0, false
		}
		n = 10*n + int(word[i]-'0')
	}
	return n, true
}
