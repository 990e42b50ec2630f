package buchi

import (
	"slices"

	"augur/api"
	"augur/bits"
	"augur/words"
)

// accepts tells whether an automaton that is right accepts a word over its
// names.
func accepts(g api.General, w api.Word) bool {
	w = words.Normal(w) // nothing that is the same word has fewer places
	rows := rowsOf(g.States, g.Edges)
	from := bits.Of(g.States, g.Init...)
	for _, letter := range w.Stem {
		from = step(rows, from, letter)
	}
	f := newField(rows, from, w.Loop)
	f.dropEnds()
	// The sets are gone through in turn, till each of them has changed nothing
	// since the last change.
	for set, quiet := 0, 0; quiet < len(g.Sets) && len(f.left) > 0; set = (set + 1) % len(g.Sets) {
		quiet++
		if f.shrinkTo(bits.Of(g.States, g.Sets[set]...)) {
			quiet = 0
		}
	}
	return len(f.left) > 0
}

// spot is a state at a place of a loop.
type spot struct{ state, place int }

// field is the spots to which runs come along a loop, and a set of them that
// shrinks: what is in it at last are those from which some run goes on for ever
// and meets all that it has to.
type field struct {
	spots numbering[spot]
	ahead [][]int // of each spot: from which ones one comes to it
	left  []int   // the set
	in    []bool  // of each spot: whether the set has it
	ways  []int   // of each spot: to how many of the set one comes from it
}

// newField begins with all spots to which runs from these states, at the loop's
// first place, come.
func newField(rows [][]api.Edge, from *bits.Set, loop []uint16) *field {
	f := &field{spots: numbering[spot]{numbers: map[spot]int{}}}
	for state := range from.All() {
		f.put(spot{state: state})
	}
	for n := 0; n < len(f.spots.keys); n++ {
		at := f.spots.keys[n]
		place := (at.place + 1) % len(loop)
		for _, e := range rows[at.state] {
			if goes(e, loop[at.place]) {
				f.join(n, f.put(spot{e.To, place}))
			}
		}
	}
	return f
}

// put is the number of a spot; a new one comes into the set.
func (f *field) put(s spot) int {
	n := f.spots.number(s)
	if n == len(f.in) {
		f.left = append(f.left, n)
		f.in = append(f.in, true)
		f.ahead = append(f.ahead, nil)
		f.ways = append(f.ways, 0)
	}
	return n
}

// join notes that one comes from a spot to another one.
func (f *field) join(from, to int) {
	ahead := f.ahead[to]
	if k := len(ahead); k > 0 && ahead[k-1] == from {
		return // by another edge
	}
	f.ahead[to] = append(ahead, from)
	f.ways[from]++
}

// dropEnds takes those out of the set from which no run goes on for ever.
func (f *field) dropEnds() {
	var ends []int
	for n, ways := range f.ways {
		if ways == 0 {
			ends = append(ends, n)
		}
	}
	f.drop(ends)
}

// drop takes spots out of the set, and all from which one cannot go on within it
// any more.
func (f *field) drop(gone []int) {
	for _, n := range gone {
		f.in[n] = false
	}
	for len(gone) > 0 {
		n := gone[len(gone)-1]
		gone = gone[:len(gone)-1]
		for _, from := range f.ahead[n] {
			f.ways[from]--
			if f.ways[from] == 0 && f.in[from] {
				f.in[from] = false
				gone = append(gone, from)
			}
		}
	}
	f.left = slices.DeleteFunc(f.left, func(n int) bool { return !f.in[n] })
}

// shrinkTo leaves in the set what can come, within it, to one of these states;
// whether that took anything away.
func (f *field) shrinkTo(goal *bits.Set) bool {
	grown := f.grow(goal)
	var gone []int
	for _, n := range f.left {
		if !grown[n] {
			gone = append(gone, n)
		}
	}
	f.drop(gone)
	return len(gone) > 0
}

// grow are those of the set that can come, within it, to one of these states.
func (f *field) grow(goal *bits.Set) []bool {
	grown := make([]bool, len(f.in))
	wait := make([]int, 0, len(f.left))
	put := func(n int) {
		if f.in[n] && !grown[n] {
			grown[n] = true
			wait = append(wait, n)
		}
	}
	for _, n := range f.left {
		if goal.Has(f.spots.keys[n].state) {
			put(n)
		}
	}
	for len(wait) > 0 {
		n := wait[len(wait)-1]
		wait = wait[:len(wait)-1]
		for _, from := range f.ahead[n] {
			put(from)
		}
	}
	return grown
}
