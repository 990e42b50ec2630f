package explain

import (
	"slices"

	"augur/api"
	"augur/graph"
	"augur/moore"
)

// Nearest is a least row from a state to one that says v.
func Nearest(m api.Moore, state int, v api.Verdict) ([]uint16, bool, api.Errno) {
	if moore.Check(m) != api.OK {
		return nil, false, api.ErrMooreForm
	}
	if state < 0 || state >= len(m.Next) || v < api.True || v > api.Inconclusive {
		return nil, false, api.ErrArg
	}
	next, order := byBreadth(m, state)
	says := func(number int) bool { return m.Out[order[number]] == v }
	way, found := graph.Way(next, []int{0}, says)
	if !found {
		return nil, false, api.OK
	}
	return lettersOf(next, way), true, api.OK
}

// byBreadth numbers the states to which one comes from a first one: by breadth,
// letter by letter. Of each number next has those to which its state goes by each
// letter, and order its state.
//
// Of states that are as far from the first one, the one with the lesser number is
// come to by the lesser row. So of the shortest ways to a goal the least one,
// number by number, is also that of the least row.
func byBreadth(m api.Moore, first int) (next [][]int, order []int) {
	const none = -1
	numbers := slices.Repeat([]int{none}, len(m.Next))
	numbers[first] = 0
	order = []int{first}
	for n := 0; n < len(order); n++ {
		row := make([]int, 0, len(m.Next[order[n]]))
		for _, to := range m.Next[order[n]] {
			if numbers[to] == none {
				numbers[to] = len(order)
				order = append(order, to)
			}
			row = append(row, numbers[to])
		}
		next = append(next, row)
	}
	return next, order
}

// lettersOf are the least letters by which one goes along a way.
func lettersOf(next [][]int, way []int) []uint16 {
	var row []uint16
	for i, to := range way[1:] {
		row = append(row, uint16(slices.Index(next[way[i]], to)))
	}
	return row
}

// Dead are the states from which no verdict but the inconclusive one is reached.
func Dead(m api.Moore) ([]int, api.Errno) {
	if moore.Check(m) != api.OK {
		return nil, api.ErrMooreForm
	}
	var sure []int
	for state, out := range m.Out {
		if out != api.Inconclusive {
			sure = append(sure, state)
		}
	}
	var dead []int
	for state, leads := range graph.Back(m.Next, sure...) {
		if !leads {
			dead = append(dead, state)
		}
	}
	return dead, api.OK
}
