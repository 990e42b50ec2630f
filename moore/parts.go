package moore

import (
	"slices"

	"augur/api"
	"augur/graph"
)

// parts are the states of a machine, parted: those of one part stand side by
// side.
type parts struct {
	machine api.Moore
	back    [][]int // of each state those from which one comes to it

	order []int  // all states, part by part
	at    []int  // of each state its place in order
	of    []int  // of each state the number of its part
	spans []span // of each part its places in order
	noted []bool // of each state whether it stands in a list that is being made
}

// span are the places from one on, up to another one, without that.
type span struct{ from, to int }

func (s span) len() int { return s.to - s.from }

// partsOf tells of each state the number of its part, where those are in one
// part that say the same.
func partsOf(m api.Moore) []int {
	p := onePart(m)
	// Only states that go to one whose part has another number now can be unlike
	// the others of their own part; at first nothing is known of any.
	for changed := slices.Clone(p.order); len(changed) > 0; {
		changed = p.ahead(p.round(changed))
	}
	return p.of
}

// onePart has all states in the part 0.
func onePart(m api.Moore) *parts {
	n := len(m.Next)
	p := &parts{machine: m, back: graph.Turn(m.Next), order: make([]int, n), at: make([]int, n), of: make([]int, n), noted: make([]bool, n)}
	for state := range n {
		p.order[state], p.at[state] = state, state
	}
	p.spans = []span{{0, n}}
	return p
}

// round parts states whose rows have changed: from one another by their rows,
// and from those of their part whose rows have not (which have none of the newest
// numbers in them, and are alike). It tells which states got another part's
// number.
func (p *parts) round(changed []int) []int {
	var moved []int
	for _, list := range p.alike(changed) {
		moved = append(moved, p.split(list)...)
	}
	return moved
}

// alike are lists of those that say one verdict and have one row. (These are of
// one part: what parted others is still unlike, since parts are never joined.)
func (p *parts) alike(states []int) [][]int {
	var lists [][]int
	numbers := map[string]int{}
	var text []byte
	for _, state := range states {
		text = p.text(text[:0], state)
		number, known := numbers[string(text)]
		if !known {
			number = len(lists)
			numbers[string(text)] = number
			lists = append(lists, nil)
		}
		lists[number] = append(lists[number], state)
	}
	return lists
}

// text is what a state says and the row of the parts to which it goes, put behind
// what is there; each number in four bytes, so that unlike rows are unlike texts.
func (p *parts) text(text []byte, state int) []byte {
	text = append(text, byte(p.machine.Out[state]))
	for _, to := range p.machine.Next[state] {
		part := p.of[to]
		text = append(text, byte(part), byte(part>>8), byte(part>>16), byte(part>>24))
	}
	return text
}

// split parts these states of one part from the rest of it, if there is any. The
// greater side keeps the number: so a state gets another one only when its part
// comes to be half as great or less, which is seldom. It tells which states did.
func (p *parts) split(list []int) []int {
	part := p.of[list[0]]
	rest := p.spans[part]
	side := span{rest.to, rest.to}
	for _, state := range list {
		rest.to--
		side.from--
		p.swap(p.at[state], side.from)
	}
	less, more := side, rest
	if less.len() > more.len() {
		less, more = more, less
	}
	p.spans[part] = more
	return p.number(less)
}

// swap lets the states at two places change them.
func (p *parts) swap(i, j int) {
	p.order[i], p.order[j] = p.order[j], p.order[i]
	p.at[p.order[i]], p.at[p.order[j]] = i, j
}

// number gives the states at these places, if there are any, the next part's
// number, and tells which they are.
func (p *parts) number(places span) []int {
	if places.len() == 0 {
		return nil
	}
	states := p.order[places.from:places.to]
	for _, state := range states {
		p.of[state] = len(p.spans)
	}
	p.spans = append(p.spans, places)
	return states
}

// ahead are the states from which one comes to one of these, each once.
func (p *parts) ahead(states []int) []int {
	var list []int
	for _, state := range states {
		for _, from := range p.back[state] {
			if !p.noted[from] {
				p.noted[from] = true
				list = append(list, from)
			}
		}
	}
	for _, state := range list {
		p.noted[state] = false
	}
	return list
}
