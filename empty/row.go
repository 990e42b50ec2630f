package empty

import (
	"iter"
	"slices"

	"augur/api"
	"augur/bits"
)

// leastRow is the least row of so many letters by which one can go from one of
// these states to a goal; togo is of each state how many edges it still is to
// that. There is no shorter way from these (no shorter ring, if they are the
// goal): so each edge leads one nearer, and the row is the least, if each of its
// letters is, among those that lead on from any state to which one can have come.
func leastRow(a api.Buchi, from *bits.Set, togo []int, length int) []uint16 {
	row := make([]uint16, 0, length)
	for rest := length - 1; rest >= 0; rest-- {
		onward := edgesOnward(a, from, togo, rest)
		// The least letter by which an edge goes is its Must: by the least one of
		// all those go whose Must it is, and no others.
		first, _ := least(slices.Values(onward), func(d, e api.Edge) bool { return d.Must < e.Must })
		row = append(row, first.Must)
		from = bits.New(a.States)
		for _, e := range onward {
			if e.Must == first.Must {
				from.Put(e.To)
			}
		}
	}
	return row
}

// edgesOnward are the edges from these states to those from which it still is so
// many edges.
func edgesOnward(a api.Buchi, from *bits.Set, togo []int, rest int) []api.Edge {
	var onward []api.Edge
	for state := range from.All() {
		for e := range edgesFrom(a, state) {
			if togo[e.To] == rest {
				onward = append(onward, e)
			}
		}
	}
	return onward
}

// edgesFrom goes through the edges from a state: they stand together.
func edgesFrom(a api.Buchi, state int) iter.Seq[api.Edge] {
	first, _ := slices.BinarySearchFunc(a.Edges, state, func(e api.Edge, state int) int { return e.From - state })
	return func(yield func(api.Edge) bool) {
		for _, e := range a.Edges[first:] {
			if e.From != state || !yield(e) {
				return
			}
		}
	}
}
