package buchi

import (
	"iter"
	"slices"

	"augur/api"
)

// Degen is an automaton with one set that accepts the same words.
func Degen(g api.General) (api.Buchi, api.Errno) {
	if !isRight(g) {
		return api.Buchi{}, api.ErrBuchiForm
	}
	return sourceOf(g).degen()
}

// Trim is a without the states that are not reached.
func Trim(a api.Buchi) (api.Buchi, api.Errno) {
	// With one set there is nothing else to wait for: Degen makes no more of it
	// than new numbers.
	return Degen(asGeneral(a))
}

// pair is a state of a and one of b; of one automaton alone, a state and 0.
type pair struct{ left, right int }

// waiting is a pair, and which set is waited for.
type waiting struct {
	pair pair
	set  int
}

// link is an edge to a pair.
type link struct {
	to   pair
	must uint16
	not  uint16
}

// source is an automaton with sets whose states are pairs. It tells them as it
// is asked: there may be far too many to go through all of them.
type source struct {
	props  []string
	begins iter.Seq[pair]
	behind func(pair) iter.Seq[link] // by rising pairs
	sets   int                       // how many there are: one at least
	has    func(set int, p pair) bool
}

// sourceOf has the states of g for its pairs.
func sourceOf(g api.General) source {
	s := source{props: g.Props, sets: len(g.Sets)}
	rows := rowsOf(g.States, g.Edges)
	s.begins = func(yield func(pair) bool) {
		for _, state := range g.Init {
			if !yield(pair{left: state}) {
				return
			}
		}
	}
	s.behind = func(p pair) iter.Seq[link] {
		return func(yield func(link) bool) {
			for _, e := range rows[p.left] {
				if !yield(link{pair{left: e.To}, e.Must, e.Not}) {
					return
				}
			}
		}
	}
	s.has = func(set int, p pair) bool { return isAmong(g.Sets[set], p.left) }
	if s.sets == 0 {
		// Any run will do: it is as if there were one set, of all states.
		s.sets, s.has = 1, func(int, pair) bool { return true }
	}
	return s
}

// isAmong tells whether a rising list has a state.
func isAmong(list []int, state int) bool {
	_, is := slices.BinarySearch(list, state)
	return is
}

// degen is the automaton that waits for one set of s behind the other, numbered
// by breadth.
func (s source) degen() (api.Buchi, api.Errno) {
	m := maker{source: s, states: numbering[waiting]{numbers: map[waiting]int{}}}
	m.made.Props = append(m.made.Props, s.props...)
	for p := range s.begins {
		m.made.Init = append(m.made.Init, m.states.number(waiting{pair: p}))
		if m.tooMany() {
			return api.Buchi{}, api.ErrMuch
		}
	}
	for from := 0; from < len(m.states.keys); from++ {
		m.leave(from)
		if m.tooMany() {
			return api.Buchi{}, api.ErrMuch
		}
	}
	m.made.States = len(m.states.keys)
	return m.made, api.OK
}

// maker is an automaton that is being made.
type maker struct {
	source source
	states numbering[waiting]
	made   api.Buchi
}

func (m *maker) tooMany() bool { return len(m.states.keys) > maxStates }

// leave gives the state of that number its edges, and those behind it their
// numbers, unless they come to be too many.
func (m *maker) leave(from int) {
	at := m.states.keys[from]
	next := at.set
	if m.source.has(at.set, at.pair) {
		next = (at.set + 1) % m.source.sets
		if next == 0 {
			m.made.Final = append(m.made.Final, from)
		}
	}
	first := len(m.made.Edges)
	for l := range m.source.behind(at.pair) {
		to := m.states.number(waiting{l.to, next})
		if m.tooMany() {
			return
		}
		m.made.Edges = append(m.made.Edges, api.Edge{From: from, To: to, Must: l.must, Not: l.not})
	}
	row := m.made.Edges[first:]
	slices.SortFunc(row, compareEdges)
	m.made.Edges = m.made.Edges[:first+len(slices.Compact(row))]
}
