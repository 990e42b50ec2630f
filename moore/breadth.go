package moore

import (
	"slices"

	"augur/api"
)

// pair is a state of each of two automata, to which one comes together.
type pair struct{ can, fail int }

// silent is no verdict.
const silent api.Verdict = 0

// verdict is what a pair says whose states are live or not.
func verdict(can, fail bool) api.Verdict {
	switch {
	case can && fail:
		return api.Inconclusive
	case can:
		return api.True
	case fail:
		return api.False
	}
	return silent
}

// byBreadth is the machine of all to which one comes from a first thing, numbered
// by breadth. There is none, if one of these says nothing.
func byBreadth[T comparable](props []string, first T, next func(T, int) T, says func(T) api.Verdict) (api.Moore, bool) {
	m := api.Moore{Props: slices.Clone(props)}
	order := []T{first}
	numbers := map[T]int{first: 0}
	for n := 0; n < len(order); n++ {
		out := says(order[n])
		if out == silent {
			return api.Moore{}, false
		}
		row := make([]int, 1<<len(props))
		for letter := range row {
			to := next(order[n], letter)
			number, known := numbers[to]
			if !known {
				number = len(order)
				numbers[to] = number
				order = append(order, to)
			}
			row[letter] = number
		}
		m.Next = append(m.Next, row)
		m.Out = append(m.Out, out)
	}
	return m, true
}
