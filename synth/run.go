package synth

import (
	"augur/api"
	"augur/buchi"
	"augur/dfa"
	"augur/empty"
	"augur/moore"
	"augur/nnf"
	"augur/tableau"
	"augur/tree"
)

// mostNodes is how many nodes a tableau may have whose automaton is taken: with
// more of them it is above every limit, so that none needs to be found.
const mostNodes = 65536

// run is a formula on its way to its monitor, and what that takes so far.
type run struct {
	formula api.Formula
	names   []string
	limits  api.Limits
	counts  Counts
	sides   [2]side
}

// side is what is made of a formula: of the one that is asked for, and of its
// negation.
type side struct {
	form      api.Formula // in negation normal form
	nodes     *tableau.Tableau
	automaton api.Buchi
	prefixes  api.DFA
}

// monitor is that of a formula, if its names are among these.
func monitor(f api.Formula, names []string, l api.Limits) (api.Moore, api.Errno) {
	r := run{formula: f, names: names, limits: l}
	if err := r.all(); err != api.OK {
		return api.Moore{}, err
	}
	m, err := moore.Product(r.sides[0].prefixes, r.sides[1].prefixes)
	if err != api.OK {
		return api.Moore{}, err
	}
	return moore.Least(m)
}

// all makes the automata of both sides, stage by stage, up to the first limit that
// is too small. A stage is done of both ahead of the next one: that is the order
// in which limits are told.
func (r *run) all() api.Errno {
	stages := [...]func(*run) api.Errno{(*run).forms, (*run).tableaux, (*run).automata, (*run).prefixes}
	for _, stage := range stages {
		if err := stage(r); err != api.OK {
			return err
		}
	}
	return api.OK
}

// forms makes the normal forms, and counts what can be told of these alone.
func (r *run) forms() api.Errno {
	c := &r.counts
	c.Nodes, c.Depth, c.Props = tree.Size(r.formula), tree.Depth(r.formula), len(r.names)
	forms := [...]func(api.Formula) (api.Formula, api.Errno){nnf.Normal, nnf.Dual}
	for i, form := range forms {
		f, err := form(r.formula)
		if err != api.OK {
			c.Nodes = api.MaxNodes + 1
		}
		c.Nodes = max(c.Nodes, tree.Size(f))
		c.Splits = max(c.Splits, splits(f))
		r.sides[i].form = f
	}
	switch l := r.limits; {
	case c.Nodes > min(l.Nodes, api.MaxNodes):
		return api.ErrLimitNodes
	case c.Depth > l.Depth:
		return api.ErrLimitDepth
	case c.Props > l.Props:
		return api.ErrLimitProps
	case c.Splits > l.Splits:
		return api.ErrLimitSplits
	}
	return api.OK
}

// splits is how many unlike formulas with |, U or R stand in one.
func splits(f api.Formula) int {
	n := 0
	for _, sub := range tree.Subs(f) {
		switch sub.Op {
		case api.OpOr, api.OpUntil, api.OpRelease:
			n++
		}
	}
	return n
}

func (r *run) tableaux() api.Errno {
	for i := range r.sides {
		s := &r.sides[i]
		nodes, err := tableau.Of(s.form, r.names, min(r.limits.Tableau, mostNodes))
		if err != api.OK {
			return err
		}
		s.nodes = nodes
		r.counts.Tableau = max(r.counts.Tableau, nodes.Len())
	}
	return api.OK
}

func (r *run) automata() api.Errno {
	for i := range r.sides {
		s := &r.sides[i]
		a, err := buchi.Degen(s.nodes.General())
		if err != api.OK {
			return api.ErrLimitTableau // above every limit
		}
		s.automaton, s.nodes = a, nil
	}
	return api.OK
}

func (r *run) prefixes() api.Errno {
	for i := range r.sides {
		s := &r.sides[i]
		live, err := empty.Live(s.automaton)
		if err != api.OK {
			return err
		}
		d, err := dfa.Build(s.automaton, live, r.limits.States)
		if err != api.OK {
			return err
		}
		s.prefixes, s.automaton = d, api.Buchi{}
		r.counts.States = max(r.counts.States, len(d.Next))
	}
	return api.OK
}
