package nnf

import "augur/api"

// plan is a formula that is not made yet, and what it would come to. Plans have
// parts in common, so that the plan of a formula that is far too great is small.
type plan struct {
	op    api.Op
	name  string
	kids  []plan
	size  int // this and depth stop growing as soon as they are beyond the bounds
	depth int
}

// pair are the plans of N and D of one formula.
type pair struct {
	n plan
	d plan
}

func planOf(o api.Op, kids ...plan) plan {
	p := plan{op: o, kids: kids, size: 1, depth: 1}
	for _, kid := range kids {
		p.size = min(p.size+kid.size, api.MaxNodes+1)
		p.depth = min(max(p.depth, kid.depth+1), api.MaxDepth+1)
	}
	return p
}

func (p plan) fits() bool { return p.size <= api.MaxNodes && p.depth <= api.MaxDepth }

// formula makes what is planned; a part that plans have in common is made anew
// wherever it stands.
func (p plan) formula() api.Formula {
	f := api.Formula{Op: p.op, Name: p.name}
	for _, kid := range p.kids {
		f.Kids = append(f.Kids, kid.formula())
	}
	return f
}

func leafPlans(f api.Formula) pair {
	yes, no := planOf(api.OpTrue), planOf(api.OpFalse)
	switch f.Op {
	case api.OpTrue:
		return pair{yes, no}
	case api.OpFalse:
		return pair{no, yes}
	}
	name := planOf(api.OpProp)
	name.name = f.Name
	return pair{name, planOf(api.OpNot, name)}
}

// plans has the chapter's columns N and D of each operator.
func plans() table[pair] {
	yes, no := planOf(api.OpTrue), planOf(api.OpFalse)
	and := func(a, b plan) plan { return planOf(api.OpAnd, a, b) }
	or := func(a, b plan) plan { return planOf(api.OpOr, a, b) }
	until := func(a, b plan) plan { return planOf(api.OpUntil, a, b) }
	release := func(a, b plan) plan { return planOf(api.OpRelease, a, b) }
	return table[pair]{
		api.OpNot:     func(a, _ pair) pair { return pair{a.d, a.n} },
		api.OpAnd:     func(a, b pair) pair { return pair{and(a.n, b.n), or(a.d, b.d)} },
		api.OpOr:      func(a, b pair) pair { return pair{or(a.n, b.n), and(a.d, b.d)} },
		api.OpImp:     func(a, b pair) pair { return pair{or(a.d, b.n), and(a.n, b.d)} },
		api.OpIff:     func(a, b pair) pair { return pair{or(and(a.n, b.n), and(a.d, b.d)), or(and(a.n, b.d), and(a.d, b.n))} },
		api.OpNext:    func(a, _ pair) pair { return pair{planOf(api.OpNext, a.n), planOf(api.OpNext, a.d)} },
		api.OpEvent:   func(a, _ pair) pair { return pair{until(yes, a.n), release(no, a.d)} },
		api.OpAlways:  func(a, _ pair) pair { return pair{release(no, a.n), until(yes, a.d)} },
		api.OpUntil:   func(a, b pair) pair { return pair{until(a.n, b.n), release(a.d, b.d)} },
		api.OpRelease: func(a, b pair) pair { return pair{release(a.n, b.n), until(a.d, b.d)} },
		api.OpWeak:    func(a, b pair) pair { return pair{release(b.n, or(a.n, b.n)), until(b.d, and(a.d, b.d))} },
		api.OpStrong:  func(a, b pair) pair { return pair{until(b.n, and(a.n, b.n)), release(b.d, or(a.d, b.d))} },
	}
}
