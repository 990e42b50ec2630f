package syntax

import "augur/api"

// tense is the time that an operator, or a formula, is of.
type tense uint8

const (
	both tense = iota
	future
	past
)

// Levels: how tightly an operator binds, the tightest the least. From the level
// between on, operators stand between two formulas.
const (
	alone   = 0 // true and false: no kid
	ahead   = 1 // ahead of one kid
	between = 2
	bracket = 7 // above all operators: what is open takes nothing
)

// operator is what a word or sign makes of its kids.
type operator struct {
	op    api.Op
	level int
	right bool // a row of them goes to the right
	of    tense
}

// takes tells whether o has the formula that stands between it and a later
// operator.
func (o operator) takes(later operator) bool {
	return o.level < later.level || o.level == later.level && !o.right
}

// operators has what each word and sign is.
func operators() map[string]operator {
	return map[string]operator{
		"true":  {op: api.OpTrue, level: alone},
		"false": {op: api.OpFalse, level: alone},
		"!":     {op: api.OpNot, level: ahead, right: true},
		"X":     {op: api.OpNext, level: ahead, right: true, of: future},
		"F":     {op: api.OpEvent, level: ahead, right: true, of: future},
		"G":     {op: api.OpAlways, level: ahead, right: true, of: future},
		"Y":     {op: api.OpYest, level: ahead, right: true, of: past},
		"Z":     {op: api.OpWeakYest, level: ahead, right: true, of: past},
		"O":     {op: api.OpOnce, level: ahead, right: true, of: past},
		"H":     {op: api.OpHist, level: ahead, right: true, of: past},
		"U":     {op: api.OpUntil, level: between, right: true, of: future},
		"R":     {op: api.OpRelease, level: between, right: true, of: future},
		"W":     {op: api.OpWeak, level: between, right: true, of: future},
		"M":     {op: api.OpStrong, level: between, right: true, of: future},
		"S":     {op: api.OpSince, level: between, right: true, of: past},
		"T":     {op: api.OpTrig, level: between, right: true, of: past},
		"&":     {op: api.OpAnd, level: 3},
		"|":     {op: api.OpOr, level: 4},
		"->":    {op: api.OpImp, level: 5, right: true},
		"<->":   {op: api.OpIff, level: 6},
	}
}

// sign is an operator with the text that stands for it.
type sign struct {
	operator
	text string
}

// signs has the operators by their Ops; of a name, which is none, a sign of
// noughts.
func signs() [api.OpTrig + 1]sign {
	var table [api.OpTrig + 1]sign
	for text, o := range operators() {
		table[o.op] = sign{o, text}
	}
	return table
}
