package dfa

import (
	"cmp"
	"iter"
	"slices"

	"augur/api"
	"augur/bits"
	"augur/buchi"
)

// wordBits is how many states a word of a set tells of.
const wordBits = 64

// ways are the edges of an automaton between live states, laid out so that one
// comes fast from a subset to the next one. (buchi.Step tells the same, but looks
// at the whole automaton for each letter of each subset.)
type ways struct {
	states int
	moves  [][]move    // of each state
	labels int         // how many unlike ones there are
	going  []*bits.Set // of each letter the labels with which it goes
}

// move is where the edges of one state with one label lead. Where there are so
// many of them that a set takes no more room than a list, it is a set.
type move struct {
	label int
	few   []int
	many  *bits.Set
}

// label is what letters an edge goes with.
type label struct{ must, not uint16 }

// waysOf are the ways of an automaton that is right.
func waysOf(a api.Buchi, live *bits.Set) ways {
	w := ways{states: a.States, moves: make([][]move, a.States)}
	numbers := map[label]int{}
	var labels []label
	for piece := range byLabel(edgesBetween(a, live)) {
		e := piece[0]
		l := label{e.Must, e.Not}
		number, known := numbers[l]
		if !known {
			number = len(labels)
			numbers[l] = number
			labels = append(labels, l)
		}
		w.moves[e.From] = append(w.moves[e.From], moveOf(number, piece, a.States))
	}
	w.labels = len(labels)
	w.going = goingWith(labels, len(a.Props))
	return w
}

// edgesBetween are the edges between live states, those of one state with one
// label together.
func edgesBetween(a api.Buchi, live *bits.Set) []api.Edge {
	var list []api.Edge
	for _, e := range a.Edges {
		if live.Has(e.From) && live.Has(e.To) {
			list = append(list, e)
		}
	}
	slices.SortFunc(list, compareByLabel)
	return list
}

func compareByLabel(a, b api.Edge) int {
	switch {
	case a.From != b.From:
		return cmp.Compare(a.From, b.From)
	case a.Must != b.Must:
		return cmp.Compare(a.Must, b.Must)
	case a.Not != b.Not:
		return cmp.Compare(a.Not, b.Not)
	}
	return cmp.Compare(a.To, b.To)
}

// byLabel goes through the pieces of edges that are of one state with one label.
func byLabel(edges []api.Edge) iter.Seq[[]api.Edge] {
	return func(yield func([]api.Edge) bool) {
		for rest := edges; len(rest) > 0; {
			n := 1
			for n < len(rest) && rest[n].From == rest[0].From && rest[n].Must == rest[0].Must && rest[n].Not == rest[0].Not {
				n++
			}
			if !yield(rest[:n]) {
				return
			}
			rest = rest[n:]
		}
	}
}

// moveOf is the move of such a piece.
func moveOf(number int, piece []api.Edge, states int) move {
	m := move{label: number}
	if len(piece) > states/wordBits {
		m.many = bits.New(states)
		for _, e := range piece {
			m.many.Put(e.To)
		}
		return m
	}
	m.few = make([]int, len(piece))
	for i, e := range piece {
		m.few[i] = e.To
	}
	return m
}

// putInto puts the states to which the move leads into a set.
func (m move) putInto(to *bits.Set) {
	if m.many != nil {
		to.Or(m.many)
		return
	}
	for _, state := range m.few {
		to.Put(state)
	}
}

// goingWith are, of each letter over so many names, the labels with which it
// goes.
func goingWith(labels []label, props int) []*bits.Set {
	going := make([]*bits.Set, 1<<props)
	for letter := range going {
		going[letter] = bits.New(len(labels))
	}
	for number, l := range labels {
		for letter := range buchi.Letters(l.must, l.not, props) {
			going[letter].Put(number)
		}
	}
	return going
}
