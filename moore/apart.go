package moore

import (
	"slices"

	"augur/api"
)

// meeting is two states to which one comes together by one row, and by which
// letter one came to them from which other meeting.
type meeting struct {
	s, t   int
	ahead  int
	letter uint16
}

// rowApart is the least row behind which two states say unlike things, if there
// is one.
//
// Meetings come in the order of their rows: shorter ones first. States that have
// met, or that others who met bind together, need not meet again: if some row
// parts these, it parts two of those who bind them as well, and those met by a
// row that is less. So there are fewer meetings than states, and the first one of
// states that say unlike things is that of the least row.
func rowApart(m api.Moore, s, t int) ([]uint16, bool) {
	b := unbound(len(m.Next))
	b.bind(s, t)
	list := []meeting{{s: s, t: t}}
	for n := 0; n < len(list); n++ {
		s, t := list[n].s, list[n].t
		if m.Out[s] != m.Out[t] {
			return rowTo(list, n), true
		}
		for letter, to := range m.Next[s] {
			if b.bind(to, m.Next[t][letter]) {
				list = append(list, meeting{to, m.Next[t][letter], n, uint16(letter)})
			}
		}
	}
	return nil, false
}

// rowTo is the row by which one came to a meeting from the first one.
func rowTo(list []meeting, n int) []uint16 {
	var row []uint16
	for ; n > 0; n = list[n].ahead {
		row = append(row, list[n].letter)
	}
	slices.Reverse(row)
	return row
}

// sideBySide has the states of both machines, those of b behind those of a.
func sideBySide(a, b api.Moore) api.Moore {
	n := len(a.Next)
	m := api.Moore{Props: a.Props, Next: slices.Clone(a.Next), Out: slices.Concat(a.Out, b.Out)}
	for _, row := range b.Next {
		behind := make([]int, len(row))
		for letter, to := range row {
			behind[letter] = n + to
		}
		m.Next = append(m.Next, behind)
	}
	return m
}

// bound tells which states are bound together: of each another one that it is
// bound to; who is bound to itself speaks for all that are bound to it.
type bound []int

// unbound has so many states, none of them bound to another one.
func unbound(n int) bound {
	b := make(bound, n)
	for state := range b {
		b[state] = state
	}
	return b
}

// speaker is who speaks for a state. It halves the way to it, lest ways become
// long.
func (b bound) speaker(state int) int {
	for b[state] != state {
		b[state] = b[b[state]]
		state = b[state]
	}
	return state
}

// bind binds two states, and tells whether they were not bound already.
func (b bound) bind(s, t int) bool {
	s, t = b.speaker(s), b.speaker(t)
	b[t] = s
	return s != t
}
