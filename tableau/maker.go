package tableau

import (
	"cmp"
	"slices"
)

// maker finds the nodes of a formula, and gives them their numbers.
type maker struct {
	parts   []part
	choices set // the places of the parts that leave a choice
	most    int
	pairs   []pair // the nodes so far, by their numbers
	numbers map[pair]int
	rows    map[set][]int // by a Due: the successors of all nodes that have it
}

func newMaker(parts []part, most int) *maker {
	m := &maker{parts: parts, most: most, numbers: map[pair]int{}, rows: map[set][]int{}}
	for at, p := range parts {
		if p.choice {
			m.choices.put(at)
		}
	}
	return m
}

// whole is the set of the formula alone.
func (m *maker) whole() set { return only(len(m.parts) - 1) }

// findAll finds all nodes; false, if there are more than most.
func (m *maker) findAll() bool {
	if !m.follow(m.whole()) {
		return false
	}
	for n := 0; n < len(m.pairs); n++ {
		if !m.follow(m.pairs[n].due) {
			return false
		}
	}
	return len(m.pairs) <= m.most
}

// follow finds the pairs that fit a set, and gives numbers to the new ones among
// them; false, if there are more nodes than most.
func (m *maker) follow(due set) bool {
	if _, known := m.rows[due]; known {
		return true
	}
	first := len(m.pairs)
	s := search{maker: m, seen: map[stage]struct{}{}}
	if !s.begin(due) {
		return false
	}
	fresh := m.pairs[first:]
	slices.SortFunc(fresh, func(a, b pair) int {
		return cmp.Or(a.old.compare(&b.old), a.due.compare(&b.due))
	})
	for i, p := range fresh {
		m.numbers[p] = first + i
	}
	// The new ones are all in this row: that they have changed numbers among
	// themselves does not change it.
	slices.Sort(s.row)
	m.rows[due] = slices.Compact(s.row)
	return true
}

// number is that of a pair; a new one has the next, till follow puts them in
// order.
func (m *maker) number(p pair) int {
	n, known := m.numbers[p]
	if !known {
		n = len(m.pairs)
		m.numbers[p] = n
		m.pairs = append(m.pairs, p)
	}
	return n
}

// beginnings are the numbers of those among the nodes.
func (m *maker) beginnings() []int { return m.rows[m.whole()] }

// nodes are all that were found.
func (m *maker) nodes() []node {
	nodes := make([]node, len(m.pairs))
	for i, p := range m.pairs {
		n := node{pair: p, next: m.rows[p.due]}
		for at := range p.old.all() {
			n.must |= m.parts[at].must
			n.not |= m.parts[at].not
		}
		nodes[i] = n
	}
	return nodes
}
