package formula

import "lassowork/api"

// sign of a kind: how it is written, and what goes with it.
type sign struct {
	text     string
	parts    int  // how many formulas it is made of: none, A, or A and B
	number   bool // N stands behind it
	temporal bool // one of those of which only MaxTemporal may be
	opposite int  // of what is made of parts: the kind that, of their opposites, is its opposite
}

// signs by kind. No two begin with the same byte: so one byte tells which one it must be.
func signs() map[int]sign {
	return map[int]sign{
		api.True:    {text: "true"},
		api.Prop:    {text: "p", number: true},
		api.Not:     {text: "!", parts: 1},
		api.And:     {text: "&", parts: 2, opposite: api.Or},
		api.Or:      {text: "|", parts: 2, opposite: api.And},
		api.Next:    {text: "X", parts: 1, temporal: true, opposite: api.Next},
		api.Until:   {text: "U", parts: 2, temporal: true, opposite: api.Release},
		api.Release: {text: "R", parts: 2, temporal: true, opposite: api.Until},
	}
}

// grow a formula by a node, and answer the node's number.
func grow(f *api.Formula, n api.Node) int {
	*f = append(*f, n)
	return len(*f) - 1
}
