package nnf

import (
	"augur/api"
	"augur/tree"
)

// turned has for an operator the one that stands in its place, where all is
// turned round: what is true is false.
var turned = [...]api.Op{
	api.OpTrue:   api.OpFalse,
	api.OpFalse:  api.OpTrue,
	api.OpAnd:    api.OpOr,
	api.OpOr:     api.OpAnd,
	api.OpEvent:  api.OpAlways,
	api.OpAlways: api.OpEvent,
}

func leafAgain(f api.Formula) api.Formula { return api.Formula{Op: f.Op, Name: f.Name} }

func formulaOf(o api.Op, kids ...api.Formula) api.Formula { return api.Formula{Op: o, Kids: kids} }

func same(a, b api.Formula) bool { return tree.Cmp(a, b) == 0 }

func isConstant(f api.Formula) bool { return f.Op == api.OpTrue || f.Op == api.OpFalse }

// deny tells whether one of the two is the negation of the other.
func deny(a, b api.Formula) bool {
	return a.Op == api.OpNot && same(a.Kids[0], b) || b.Op == api.OpNot && same(b.Kids[0], a)
}

// has tells whether f is of that operator, with kid among its two kids.
func has(f api.Formula, o api.Op, kid api.Formula) bool {
	return f.Op == o && (same(f.Kids[0], kid) || same(f.Kids[1], kid))
}

// simpler has the chapter's rows of each operator. Those of |, G, R and M are
// those of &, F, U and W, turned round.
func simpler() table[api.Formula] {
	return table[api.Formula]{
		api.OpNot:     func(a, _ api.Formula) api.Formula { return not(a) },
		api.OpAnd:     func(a, b api.Formula) api.Formula { return junction(api.OpAnd, api.OpFalse, a, b) },
		api.OpOr:      func(a, b api.Formula) api.Formula { return junction(api.OpOr, api.OpTrue, a, b) },
		api.OpImp:     implication,
		api.OpIff:     equality,
		api.OpNext:    func(a, _ api.Formula) api.Formula { return next(a) },
		api.OpEvent:   func(a, _ api.Formula) api.Formula { return lasting(api.OpEvent, a) },
		api.OpAlways:  func(a, _ api.Formula) api.Formula { return lasting(api.OpAlways, a) },
		api.OpUntil:   func(a, b api.Formula) api.Formula { return until(api.OpUntil, api.OpTrue, api.OpEvent, a, b) },
		api.OpRelease: func(a, b api.Formula) api.Formula { return until(api.OpRelease, api.OpFalse, api.OpAlways, a, b) },
		api.OpWeak:    func(a, b api.Formula) api.Formula { return weak(api.OpWeak, api.OpTrue, api.OpAlways, a, b) },
		api.OpStrong:  func(a, b api.Formula) api.Formula { return weak(api.OpStrong, api.OpFalse, api.OpEvent, a, b) },
	}
}

func not(a api.Formula) api.Formula {
	switch {
	case isConstant(a):
		return formulaOf(turned[a.Op])
	case a.Op == api.OpNot:
		return a.Kids[0]
	}
	return formulaOf(api.OpNot, a)
}

// junction is & or |; least is the constant that settles it.
func junction(o, least api.Op, a, b api.Formula) api.Formula {
	switch {
	case a.Op == least || b.Op == least:
		return formulaOf(least)
	case a.Op == turned[least]:
		return b
	case b.Op == turned[least]:
		return a
	case same(a, b):
		return a
	case deny(a, b):
		return formulaOf(least)
	case has(a, turned[o], b):
		return b
	case has(b, turned[o], a):
		return a
	}
	return inOrder(o, a, b)
}

func inOrder(o api.Op, a, b api.Formula) api.Formula {
	if tree.Cmp(b, a) < 0 {
		a, b = b, a
	}
	return formulaOf(o, a, b)
}

func implication(a, b api.Formula) api.Formula {
	switch {
	case a.Op == api.OpFalse || b.Op == api.OpTrue:
		return formulaOf(api.OpTrue)
	case a.Op == api.OpTrue:
		return b
	case b.Op == api.OpFalse:
		return not(a)
	case same(a, b):
		return formulaOf(api.OpTrue)
	}
	return formulaOf(api.OpImp, a, b)
}

func equality(a, b api.Formula) api.Formula {
	switch {
	case a.Op == api.OpTrue:
		return b
	case b.Op == api.OpTrue:
		return a
	case a.Op == api.OpFalse:
		return not(b)
	case b.Op == api.OpFalse:
		return not(a)
	case same(a, b):
		return formulaOf(api.OpTrue)
	}
	return inOrder(api.OpIff, a, b)
}

func next(a api.Formula) api.Formula {
	if isConstant(a) {
		return a
	}
	return formulaOf(api.OpNext, a)
}

// lasting is F or G.
func lasting(o api.Op, a api.Formula) api.Formula {
	if isConstant(a) || a.Op == o || a.Op == turned[o] && a.Kids[0].Op == o {
		return a
	}
	return formulaOf(o, a)
}

// until is U or R; behind the constant free it is what short says of b alone.
func until(o, free, short api.Op, a, b api.Formula) api.Formula {
	switch {
	case isConstant(b):
		return b
	case a.Op == free:
		return lasting(short, b)
	case a.Op == turned[free]:
		return b
	case same(a, b):
		return a
	case b.Op == short:
		return b
	}
	return formulaOf(o, a, b)
}

// weak is W or M; the constant sure settles it, and ahead of the other one it is
// what short says of a alone.
func weak(o, sure, short api.Op, a, b api.Formula) api.Formula {
	switch {
	case a.Op == sure || b.Op == sure:
		return formulaOf(sure)
	case a.Op == turned[sure]:
		return b
	case b.Op == turned[sure]:
		return lasting(short, a)
	case same(a, b):
		return a
	}
	return formulaOf(o, a, b)
}
