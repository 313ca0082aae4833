package formula

import "lassowork/api"

// turner makes of a formula one whose Nots stand ahead of true and propositions alone.
type turner struct {
	signs     map[int]sign
	from, out api.Formula
}

// turn the node of that number, or its opposite, into new nodes, and answer the number of the last. A node that several others are made of is turned anew for each of them: Parse would have it so.
func (t *turner) turn(number int, opposite bool) int {
	n := t.from[number]
	s := t.signs[n.Kind]
	if n.Kind == api.Not {
		return t.turn(n.A, !opposite)
	}
	if s.parts == 0 {
		return t.leaf(n, opposite)
	}
	if opposite {
		n.Kind = s.opposite
	}
	n.A = t.turn(n.A, opposite)
	if s.parts == 2 {
		n.B = t.turn(n.B, opposite)
	}
	return grow(&t.out, n)
}

// leaf: a node that is made of no other ones.
func (t *turner) leaf(n api.Node, opposite bool) int {
	at := grow(&t.out, n)
	if opposite {
		at = grow(&t.out, api.Node{Kind: api.Not, A: at})
	}
	return at
}
