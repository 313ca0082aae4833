package formula

import (
	"strconv"
	"strings"

	"lassowork/api"
)

// maxText is how many bytes Parse reads at most.
const maxText = 2000

// appendNode writes the node of that number, with all that it is made of.
func appendNode(out []byte, f api.Formula, number int, all map[int]sign) []byte {
	n := f[number]
	s := all[n.Kind]
	if s.parts == 2 {
		out = appendNode(append(out, '('), f, n.A, all)
		out = append(out, ' ')
		out = append(out, s.text...)
		out = append(out, ' ')
		return append(appendNode(out, f, n.B, all), ')')
	}
	out = append(out, s.text...)
	if s.parts == 1 {
		return appendNode(out, f, n.A, all)
	}
	if s.number {
		return strconv.AppendInt(out, int64(n.N), 10)
	}
	return out
}

// place of a text: a reader panics with the one where something stands that can't, since it may be deep in parts of parts then.
type place int

type reader struct {
	signs map[int]sign
	text  string
	at    int
	out   api.Formula
}

// read all of a text; false, if something in it can't stand there, and where.
func read(text string) (f api.Formula, wrong int, ok bool) {
	defer func() {
		why := recover()
		if why == nil {
			return
		}
		at, isPlace := why.(place)
		if !isPlace {
			panic(why)
		}
		f, wrong, ok = nil, int(at), false
	}()
	r := reader{signs: signs(), text: text}
	r.node()
	if r.at < len(text) {
		panic(place(r.at))
	}
	return r.out, 0, true
}

// node: reads one, behind all that it is made of, and answers its number.
func (r *reader) node() int {
	if strings.HasPrefix(r.text[r.at:], "(") {
		return r.pair()
	}
	kind := r.kind(func(s sign) bool { return s.parts < 2 })
	n := api.Node{Kind: kind}
	if r.signs[kind].parts == 1 {
		n.A = r.node()
	}
	if r.signs[kind].number {
		n.N = r.number()
	}
	return grow(&r.out, n)
}

// pair: a node of two parts.
func (r *reader) pair() int {
	r.expect("(")
	a := r.node()
	r.expect(" ")
	kind := r.kind(func(s sign) bool { return s.parts == 2 })
	r.expect(" ")
	b := r.node()
	r.expect(")")
	return grow(&r.out, api.Node{Kind: kind, A: a, B: b})
}

// kind whose sign stands here, of those that fit.
func (r *reader) kind(fits func(sign) bool) int {
	for kind := api.True; kind <= api.Release; kind++ {
		s := r.signs[kind]
		if fits(s) && strings.HasPrefix(r.text[r.at:], s.text[:1]) {
			r.expect(s.text)
			return kind
		}
	}
	panic(place(r.at))
}

func (r *reader) expect(text string) {
	for i := range len(text) {
		if r.at == len(r.text) || r.text[r.at] != text[i] {
			panic(place(r.at))
		}
		r.at++
	}
}

// number without noughts ahead. All that are too great are MaxProps, which is too great as well: there may be more digits than an int holds.
func (r *reader) number() int {
	begin, n := r.at, 0
	for r.at < len(r.text) && isDigit(r.text[r.at]) && !(r.at > begin && n == 0) {
		n = min(10*n+int(r.text[r.at]-'0'), api.MaxProps)
		r.at++
	}
	if r.at == begin {
		panic(place(r.at))
	}
	return n
}

func isDigit(b byte) bool { return '0' <= b && b <= '9' }
