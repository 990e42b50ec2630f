package buchi

import (
	"cmp"
	"slices"

	"augur/api"
)

// isRight tells whether g is an automaton with sets.
func isRight(g api.General) bool {
	if !isList(g.Props) || g.States < 0 || g.States > maxStates {
		return false
	}
	noStates := func(list []int) bool { return !areStates(list, g.States) }
	return areStates(g.Init, g.States) && areEdges(g) && !slices.ContainsFunc(g.Sets, noStates)
}

// isList tells whether these are a list of names.
func isList(names []string) bool {
	if len(names) > api.MaxProps {
		return false
	}
	for i, name := range names {
		if !isName(name) || slices.Contains(names[:i], name) {
			return false
		}
	}
	return true
}

func isName(s string) bool {
	if len(s) == 0 || len(s) > api.MaxName {
		return false
	}
	for i := range len(s) {
		if b := s[i]; b < 0x20 || b > 0x7e || b == '"' || b == '\\' {
			return false
		}
	}
	return true
}

// areStates tells whether all of a list are states, rising, each once.
func areStates(list []int, states int) bool {
	for i, state := range list {
		if !isState(state, states) || i > 0 && list[i-1] >= state {
			return false
		}
	}
	return true
}

func isState(state, states int) bool { return state >= 0 && state < states }

// areEdges tells whether all edges are right, and rise.
func areEdges(g api.General) bool {
	for i, e := range g.Edges {
		if !isState(e.From, g.States) || !isState(e.To, g.States) || e.Must&e.Not != 0 || !isLetter(e.Must|e.Not, g.Props) {
			return false
		}
		if i > 0 && compareEdges(g.Edges[i-1], e) >= 0 {
			return false
		}
	}
	return true
}

func isLetter(letter uint16, names []string) bool { return letter>>len(names) == 0 }

// compareEdges is the order in which edges rise.
func compareEdges(a, b api.Edge) int {
	switch {
	case a.From != b.From:
		return cmp.Compare(a.From, b.From)
	case a.To != b.To:
		return cmp.Compare(a.To, b.To)
	case a.Must != b.Must:
		return cmp.Compare(a.Must, b.Must)
	}
	return cmp.Compare(a.Not, b.Not)
}
