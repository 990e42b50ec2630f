package explain

import (
	"slices"

	"augur/api"
	"augur/buchi"
	"augur/graph"
)

// pair is a state of an automaton and one of a monitor, to which one comes
// together.
type pair struct{ state, says int }

// label is a state of a monitor, and what an edge of the automaton that goes with
// it asks of letters.
type label struct {
	says      int
	must, not uint16
}

// pairs are a monitor beside an automaton, as far as the monitor is inconclusive.
type pairs struct {
	automaton api.Buchi
	monitor   api.Moore
	edges     [][]api.Edge // the automaton's, by the state from which they go
	numbers   map[pair]int
	order     []pair // by their numbers
	onward    map[label][]int
}

// newPairs has neither pairs nor edges yet.
func newPairs(a api.Buchi, monitor api.Moore) *pairs {
	return &pairs{
		automaton: a,
		monitor:   monitor,
		edges:     make([][]api.Edge, a.States),
		numbers:   map[pair]int{},
		onward:    map[label][]int{},
	}
}

// number is that of a pair: a new one, if it has none yet.
func (p *pairs) number(x pair) int {
	number, known := p.numbers[x]
	if !known {
		number = len(p.order)
		p.numbers[x] = number
		p.order = append(p.order, x)
	}
	return number
}

// accept tells whether there is a way without end on which the automaton's final
// states are met again and again: whether one of them stands on a ring.
func (p *pairs) accept() bool {
	g := p.graph()
	of, _ := graph.Parts(g)
	rings := graph.Cyclic(g, of)
	for number, x := range p.order {
		if _, final := slices.BinarySearch(p.automaton.Final, x.state); final && rings[of[number]] {
			return true
		}
	}
	return false
}

// graph has for each pair those to which one comes from it.
func (p *pairs) graph() [][]int {
	var g [][]int
	for n := 0; n < len(p.order); n++ {
		at := p.order[n]
		var row []int
		for _, e := range p.edges[at.state] {
			for _, says := range p.unsureBehind(label{at.says, e.Must, e.Not}) {
				row = append(row, p.number(pair{e.To, says}))
			}
		}
		g = append(g, row)
	}
	return g
}

// unsureBehind are the inconclusive states to which the monitor goes by the
// letters of a label. They are found once: many edges have the same label, and a
// label may have many letters.
func (p *pairs) unsureBehind(l label) []int {
	states, known := p.onward[l]
	if known {
		return states
	}
	for letter := range buchi.Letters(l.must, l.not, len(p.monitor.Props)) {
		if to := p.monitor.Next[l.says][letter]; p.monitor.Out[to] == api.Inconclusive {
			states = append(states, to)
		}
	}
	slices.Sort(states)
	states = slices.Compact(states)
	p.onward[l] = states
	return states
}
