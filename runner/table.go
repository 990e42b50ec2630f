package runner

import (
	"slices"

	"augur/api"
)

// table is a machine, laid out so that a step is one look. It never changes:
// runners that are copies of one another have it in common.
type table struct {
	bits  map[string]uint16 // of each name that is one of Props
	props int               // how many of them there are
	next  []int             // by state, then by letter, all rows in one
	out   []api.Verdict
	final []bool // of each state whether what it says stays so
}

// tableOf is the table of a machine that is right.
func tableOf(m api.Moore) *table {
	t := &table{bits: map[string]uint16{}, props: len(m.Props), next: slices.Concat(m.Next...), out: slices.Clone(m.Out), final: finalOf(m)}
	for i, name := range m.Props {
		t.bits[name] = 1 << i
	}
	return t
}

// behind is the state to which one comes by a letter, of which the bits of Props
// alone count.
func (t *table) behind(state int, letter uint16) int {
	among := letter & (1<<t.props - 1)
	return t.next[state<<t.props|int(among)]
}

// finalOf tells of each state whether all to which one comes from it say what it
// says.
//
// It is not so, just where one comes to a state from which a step leads to one
// that says something else. So what is not final is found backwards, from those.
func finalOf(m api.Moore) []bool {
	final := slices.Repeat([]bool{true}, len(m.Next))
	var left []int
	leave := func(state int) {
		if final[state] {
			final[state] = false
			left = append(left, state)
		}
	}
	for state, row := range m.Next {
		isOther := func(to int) bool { return m.Out[to] != m.Out[state] }
		if slices.ContainsFunc(row, isOther) {
			leave(state)
		}
	}
	back := backOf(m)
	for i := 0; i < len(left); i++ {
		for _, from := range back[left[i]] {
			leave(from)
		}
	}
	return final
}

// backOf are, of each state, those from which a step leads to it, each once.
func backOf(m api.Moore) [][]int {
	back := make([][]int, len(m.Next))
	for from, row := range m.Next {
		for _, to := range row {
			// What comes of one state comes together: if it is there, it is the last.
			if n := len(back[to]); n == 0 || back[to][n-1] != from {
				back[to] = append(back[to], from)
			}
		}
	}
	return back
}
