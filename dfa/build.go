package dfa

import (
	"slices"

	"augur/api"
	"augur/bits"
)

// build is Build of what was looked at already.
func build(a api.Buchi, live *bits.Set, most int) (api.DFA, api.Errno) {
	first := bits.Of(a.States, a.Init...)
	first.And(live)
	subsets := bits.NewTable(a.States)
	subsets.Intern(first)
	w := waysOf(a, live)
	d := api.DFA{Props: slices.Clone(a.Props)}
all:
	for number := 0; number < subsets.Len(); number++ {
		subset := subsets.At(number)
		on := w.from(subset)
		row := make([]int, letters(a.Props))
		for letter := range row {
			// Asked at each letter: there may be far too many subsets to find all
			// of them first.
			if subsets.Len() > most {
				break all
			}
			row[letter] = on.behind(letter, subsets)
		}
		d.Next = append(d.Next, row)
		d.Live = append(d.Live, subset.First() >= 0)
	}
	if subsets.Len() > most {
		return api.DFA{}, api.ErrLimitStates
	}
	return d, api.OK
}

// onward is how one goes on from one subset.
//
// Letters that go with the same of its labels lead to the same subset. That one
// is made once for all of them: it may be as wide as the automaton, and labels
// are few.
type onward struct {
	ways   ways
	states []int
	labels *bits.Set // of their moves

	classes *bits.Table // the sets of labels with which some letter went
	numbers []int       // of each class the number of the subset that comes
}

// from is how one goes on from a subset.
func (w ways) from(subset *bits.Set) *onward {
	o := &onward{ways: w, labels: bits.New(w.labels), classes: bits.NewTable(w.labels)}
	o.states = slices.AppendSeq(make([]int, 0, subset.Len()), subset.All())
	for _, state := range o.states {
		for _, m := range w.moves[state] {
			o.labels.Put(m.label)
		}
	}
	return o
}

// behind is the number of the subset that comes by a letter.
func (o *onward) behind(letter int, subsets *bits.Table) int {
	going := o.ways.going[letter].Copy()
	going.And(o.labels)
	class, fresh := o.classes.Intern(going)
	if fresh {
		number, _ := subsets.Intern(o.reached(going))
		o.numbers = append(o.numbers, number)
	}
	return o.numbers[class]
}

// reached are the states to which the moves of these labels lead.
func (o *onward) reached(labels *bits.Set) *bits.Set {
	to := bits.New(o.ways.states)
	for _, state := range o.states {
		for _, m := range o.ways.moves[state] {
			if labels.Has(m.label) {
				m.putInto(to)
			}
		}
	}
	return to
}
