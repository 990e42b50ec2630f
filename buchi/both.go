package buchi

import (
	"iter"
	"slices"

	"augur/api"
)

// Both accepts what both accept.
func Both(a, b api.Buchi) (api.Buchi, api.Errno) {
	if Check(a) != api.OK || Check(b) != api.OK || !slices.Equal(a.Props, b.Props) {
		return api.Buchi{}, api.ErrBuchiForm
	}
	return sourceOfBoth(a, b).degen()
}

// sourceOfBoth has the states of both for its pairs, and two sets: the final
// states of a, and those of b.
func sourceOfBoth(a, b api.Buchi) source {
	s := source{props: a.Props, sets: 2}
	rowsA, rowsB := rowsOf(a.States, a.Edges), rowsOf(b.States, b.Edges)
	s.begins = func(yield func(pair) bool) {
		for _, left := range a.Init {
			for _, right := range b.Init {
				if !yield(pair{left, right}) {
					return
				}
			}
		}
	}
	s.behind = func(p pair) iter.Seq[link] {
		return linksOfBoth(rowsA[p.left], rowsB[p.right])
	}
	s.has = func(set int, p pair) bool {
		if set == 0 {
			return isAmong(a.Final, p.left)
		}
		return isAmong(b.Final, p.right)
	}
	return s
}

// linksOfBoth goes through the links that edges of a and of b make together, by
// rising pairs. (Edge by edge they would not rise, where an edge of a does not
// go with the first ones of b, and the next one to the same state does.)
func linksOfBoth(a, b []api.Edge) iter.Seq[link] {
	return func(yield func(link) bool) {
		for left := range byTo(a) {
			for right := range byTo(b) {
				for l := range meet(left, right) {
					if !yield(l) {
						return
					}
				}
			}
		}
	}
}

// byTo goes through the pieces of a state's edges that lead to one state each.
func byTo(edges []api.Edge) iter.Seq[[]api.Edge] {
	return func(yield func([]api.Edge) bool) {
		for rest := edges; len(rest) > 0; {
			n := 1
			for n < len(rest) && rest[n].To == rest[0].To {
				n++
			}
			if !yield(rest[:n]) {
				return
			}
			rest = rest[n:]
		}
	}
}

// meet goes through the links of those of two pieces that can go with one
// letter.
func meet(left, right []api.Edge) iter.Seq[link] {
	return func(yield func(link) bool) {
		for _, e := range left {
			for _, f := range right {
				l := link{pair{e.To, f.To}, e.Must | f.Must, e.Not | f.Not}
				if l.must&l.not == 0 && !yield(l) {
					return
				}
			}
		}
	}
}
