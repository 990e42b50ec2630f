package dfa_test

import (
	"math"
	"slices"
	"testing"

	"augur/api"
	"augur/bits"
	"augur/buchi"
	"augur/dfa"
)

// stepByHand are the states to which an edge goes with a letter, the dead ones left out; rising.
func stepByHand(a api.Buchi, live *bits.Set, from []int, letter uint16) []int {
	var to []int
	for _, e := range a.Edges {
		if slices.Contains(from, e.From) && letter&e.Must == e.Must && letter&e.Not == 0 && live.Has(e.To) && !slices.Contains(to, e.To) {
			to = append(to, e.To)
		}
	}
	slices.Sort(to)
	return to
}

// firstByHand are the states of Init that are live.
func firstByHand(a api.Buchi, live *bits.Set) []int {
	return slices.DeleteFunc(slices.Clone(a.Init), func(q int) bool { return !live.Has(q) })
}

// byHand is the chapter's DFA, by lists of states; false: it has more than so many states.
func byHand(a api.Buchi, live *bits.Set, most int) (api.DFA, bool) {
	d := api.DFA{Props: a.Props}
	subsets := [][]int{firstByHand(a, live)}
	for n := 0; n < len(subsets) && len(subsets) <= most; n++ {
		var row []int
		for letter := range 1 << len(a.Props) {
			to := stepByHand(a, live, subsets[n], uint16(letter))
			number := slices.IndexFunc(subsets, func(s []int) bool { return slices.Equal(s, to) })
			if number < 0 {
				number = len(subsets)
				subsets = append(subsets, to)
			}
			row = append(row, number)
		}
		d.Next = append(d.Next, row)
		d.Live = append(d.Live, len(subsets[n]) > 0)
	}
	return d, len(subsets) <= most
}

// All automata of two states over one name, and of one state over two, with all Init and all sets that are live.
func TestAllSmall(t *testing.T) {
	for _, c := range []struct{ states, props int }{{0, 0}, {0, 2}, {1, 0}, {1, 1}, {1, 2}, {2, 0}, {2, 1}} {
		var edges []api.Edge
		for from := range c.states {
			for to := range c.states {
				for must := range uint16(1) << c.props {
					for not := range uint16(1) << c.props {
						if must&not == 0 {
							edges = append(edges, api.Edge{From: from, To: to, Must: must, Not: not})
						}
					}
				}
			}
		}
		sets := subsetsOf(below(c.states))
		for _, some := range subsetsOf(edges) {
			for _, init := range sets {
				for _, live := range sets {
					a := automaton(c.props, c.states, init, some...)
					set := bits.Of(c.states, live...)
					want, _ := byHand(a, set, 99)
					wantBuild(t, a, set, want)
				}
			}
		}
	}
}

// subsetsOf are all choices of some of a list, in its order.
func subsetsOf[T any](list []T) [][]T {
	all := [][]T{nil}
	for _, one := range list {
		for _, some := range all {
			all = append(all, append(slices.Clone(some), one))
		}
	}
	return all
}

// Greater ones, with more names.
func TestByHand(t *testing.T) {
	d := draw(3)
	var many, dead int
	for range 4000 {
		a := d.automaton(8, d.below(5))
		live := bits.Of(a.States, d.some(a.States, 2+d.below(4))...)
		want, within := byHand(a, live, 300)
		if !within {
			t.Fatalf("%+v has many subsets", a)
		}
		if len(want.Next) > 8 {
			many++
		}
		if slices.Contains(want.Live, false) {
			dead++
		}
		wantBuild(t, a, live, want)
	}
	if many < 100 || dead < 1000 {
		t.Errorf("%d times more than 8 subsets, %d times the empty one", many, dead)
	}
}

// Sets of more than one word of bits; states with few edges, with many, and with many of one label among few of others.
func TestByHandWide(t *testing.T) {
	d := draw(4)
	var refused, built int
	for range 250 {
		n := 60 + d.below(300)
		props := d.below(4)
		var edges []api.Edge
		for from := range n {
			for range d.below(4) {
				e := d.edge(n, props)
				e.From = from
				edges = append(edges, e)
			}
			if d.below(10) == 0 {
				e := d.edge(n, props)
				for to := range n {
					if d.below(3) == 0 {
						edges = append(edges, api.Edge{From: from, To: to, Must: e.Must, Not: e.Not})
					}
				}
			}
		}
		a := automaton(props, n, []int{d.below(n)}, edges...)
		live := bits.Of(n, d.some(n, 4)...)
		const most = 40
		want, within := byHand(a, live, most)
		if within {
			if len(want.Next) > 5 {
				built++
			}
			wantBuild(t, a, live, want)
			continue
		}
		refused++
		if got, err := dfa.Build(a, live, most); err != api.ErrLimitStates || !isZero(got) {
			t.Fatalf("%+v: %+v, %v", a, got, err)
		}
	}
	if refused < 20 || built < 20 {
		t.Errorf("%d refused, %d built", refused, built)
	}
}

// What comes behind a subset is what buchi.Step tells of it and live has.
func TestStep(t *testing.T) {
	d := draw(5)
	for range 1000 {
		a := d.automaton(10, d.below(4))
		live := bits.Of(a.States, d.some(a.States, 4)...)
		x, err := dfa.Build(a, live, 5000)
		if err != api.OK {
			t.Fatal(err)
		}
		first := bits.Of(a.States, a.Init...)
		first.And(live)
		subsets := map[int]*bits.Set{0: first}
		for n := range len(x.Next) {
			from := subsets[n] // each but the first came by a letter ahead of it
			if from == nil || x.Live[n] != (from.Len() > 0) {
				t.Fatalf("%+v: the subset %d is %v, %v", a, n, from, x.Live[n])
			}
			for letter, to := range x.Next[n] {
				set := buchi.Step(a, from, uint16(letter))
				set.And(live)
				if subsets[to] == nil {
					if to != len(subsets) {
						t.Fatalf("%+v: %d comes ahead of %d", a, to, len(subsets))
					}
					subsets[to] = set
				}
				if !subsets[to].Same(set) {
					t.Fatalf("%+v: %d is two subsets", a, to)
				}
			}
		}
		keys := map[string]int{}
		for _, set := range subsets {
			keys[set.Key()]++
		}
		if len(keys) != len(x.Next) || len(subsets) != len(x.Next) {
			t.Fatalf("%+v: %d states, %d subsets", a, len(x.Next), len(keys))
		}
	}
}

// The empty subset counts where it is come to, and there alone.
func TestEmptySubset(t *testing.T) {
	never := automaton(1, 1, []int{0}, api.Edge{})
	wantBuild(t, never, full(1), api.DFA{Props: []string{"a"}, Next: [][]int{{0, 0}}, Live: []bool{true}})
	// It is come to by the last letter of the last subset.
	last := automaton(1, 2, []int{0}, api.Edge{From: 0, To: 1}, api.Edge{From: 1, To: 1, Not: 1})
	wantBuild(t, last, full(2), api.DFA{Props: []string{"a"}, Next: [][]int{{1, 1}, {1, 2}, {2, 2}}, Live: []bool{true, true, false}})
	// It is the second one, and others come behind it.
	second := automaton(1, 2, []int{0}, api.Edge{From: 0, To: 1, Must: 1}, api.Edge{From: 1, To: 0})
	wantBuild(t, second, full(2), api.DFA{Props: []string{"a"}, Next: [][]int{{1, 2}, {1, 1}, {0, 0}}, Live: []bool{true, false, true}})
	// It is the first one: nothing is in Init, or nothing of it is live.
	none := api.DFA{Props: []string{"a"}, Next: [][]int{{0, 0}}, Live: []bool{false}}
	last.Init = nil
	wantBuild(t, last, full(2), none)
	last.Init = []int{0}
	wantBuild(t, last, bits.Of(2, 1), none)
	// What is in Init and dead is left out, and so is what is come to and dead.
	last.Init = []int{0, 1}
	wantBuild(t, last, bits.Of(2, 1), api.DFA{Props: []string{"a"}, Next: [][]int{{0, 1}, {1, 1}}, Live: []bool{true, false}})
	wantBuild(t, last, bits.Of(2, 0), api.DFA{Props: []string{"a"}, Next: [][]int{{1, 1}, {1, 1}}, Live: []bool{true, false}})
	wantBuild(t, api.Buchi{}, bits.New(0), api.DFA{Next: [][]int{{0}}, Live: []bool{false}})
}

// wrongAutomata are automata that buchi.Check refuses, each by one fault, all of them with three states or said to have others.
func wrongAutomata() map[string]api.Buchi {
	list := map[string]api.Buchi{}
	spoil := func(who string, change func(*api.Buchi)) {
		a := automaton(1, 3, []int{0}, api.Edge{From: 0, To: 0}, api.Edge{From: 0, To: 1, Must: 1}, api.Edge{From: 1, To: 2, Not: 1}, api.Edge{From: 2, To: 1, Must: 1})
		a.Final = []int{1}
		change(&a)
		list[who] = a
	}
	spoil("nine names", func(a *api.Buchi) { a.Props = append(names8(), "i") })
	spoil("a name twice", func(a *api.Buchi) { a.Props = []string{"p", "p"} })
	spoil("a name without bytes", func(a *api.Buchi) { a.Props = []string{""} })
	spoil("states below nought", func(a *api.Buchi) { a.States = -1 })
	spoil("fewer states than are named", func(a *api.Buchi) { a.States = 2 })
	spoil("no states", func(a *api.Buchi) { a.States = 0 })
	spoil("too many states", func(a *api.Buchi) { a.States = 65537 })
	spoil("far too many states", func(a *api.Buchi) { a.States = math.MaxInt })
	spoil("Init no state", func(a *api.Buchi) { a.Init = []int{3} })
	spoil("Init below nought", func(a *api.Buchi) { a.Init = []int{-1} })
	spoil("Init not rising", func(a *api.Buchi) { a.Init = []int{1, 0} })
	spoil("Init twice", func(a *api.Buchi) { a.Init = []int{0, 0} })
	spoil("Final no state", func(a *api.Buchi) { a.Final = []int{3} })
	spoil("Final not rising", func(a *api.Buchi) { a.Final = []int{1, 0} })
	spoil("an edge from no state", func(a *api.Buchi) { a.Edges[3].From = 3 })
	spoil("an edge to no state", func(a *api.Buchi) { a.Edges[3].To = 3 })
	spoil("an edge to below nought", func(a *api.Buchi) { a.Edges[0].To = -1 })
	spoil("a Must of no name", func(a *api.Buchi) { a.Edges[3].Must = 2 })
	spoil("a Not of no name", func(a *api.Buchi) { a.Edges[3].Not = 32768 })
	spoil("a bit in both", func(a *api.Buchi) { a.Edges[3].Not = 1 })
	spoil("edges not rising", func(a *api.Buchi) { a.Edges[0], a.Edges[1] = a.Edges[1], a.Edges[0] })
	spoil("an edge twice", func(a *api.Buchi) { a.Edges[1] = a.Edges[0] })
	return list
}

// wantForm wants ErrDFAForm, whatever limit there is, and nothing beside it.
func wantForm(t *testing.T, who string, a api.Buchi, live *bits.Set) {
	t.Helper()
	for _, most := range []int{math.MinInt, -1, 0, 1, 2, 9, math.MaxInt} {
		if got, err := dfa.Build(a, live, most); err != api.ErrDFAForm || !isZero(got) {
			t.Errorf("%s, at most %d: %+v, %v", who, most, got, err)
		}
	}
}

// What Build refuses: what buchi.Check does not take, whatever live is, and a live of another width.
func TestBuildWrong(t *testing.T) {
	for who, a := range wrongAutomata() {
		if buchi.Check(a) == api.OK {
			t.Fatalf("%s: it is right", who)
		}
		for _, width := range []int{0, 2, 3, 65536} {
			wantForm(t, who, a, bits.New(width))
			wantForm(t, who, a, full(width))
		}
	}
	d := draw(6)
	for range 100 {
		a := d.automaton(70, 1)
		for _, width := range []int{0, a.States - 1, a.States + 1, a.States + 64, 65536} {
			wantForm(t, "another width", a, bits.New(width))
			wantForm(t, "another width", a, full(width))
		}
	}
	wantForm(t, "no states, a width", api.Buchi{}, bits.New(1))
	wantForm(t, "no set", always(), nil)
}

// Which states are final is not looked at.
func TestFinalIsNotLookedAt(t *testing.T) {
	d := draw(7)
	for range 500 {
		a := d.automaton(6, 2)
		live := bits.Of(a.States, d.some(a.States, 4)...)
		want, _ := byHand(a, live, 999)
		for _, final := range [][]int{nil, below(a.States), d.some(a.States, 2)} {
			a.Final = final
			wantBuild(t, a, live, want)
		}
	}
}
