package buchi_test

import (
	"fmt"
	"slices"
	"testing"

	"augur/api"
	"augur/buchi"
)

// degenByHand says the chapter's words: all pairs first, whether they are reached or not, as states of the number c times States and q; then the numbering by breadth.
func degenByHand(g api.General) api.Buchi {
	k := len(g.Sets)
	all := api.Buchi{Props: g.Props, States: max(k, 1) * g.States, Init: g.Init}
	for c := range max(k, 1) {
		for q := range g.States {
			in := k == 0 || slices.Contains(g.Sets[c], q)
			if k == 0 || c == k-1 && in {
				all.Final = append(all.Final, c*g.States+q)
			}
			d := c
			if k > 0 && in {
				d = c + 1
				if d == k {
					d = 0
				}
			}
			for _, e := range g.Edges {
				if e.From == q {
					all.Edges = append(all.Edges, edge(c*g.States+q, d*g.States+e.To, e.Must, e.Not))
				}
			}
		}
	}
	return breadthByHand(all)
}

// breadthByHand gives the states of a new numbers: Init in its order, then, for each, those behind it in the order of its edges.
func breadthByHand(a api.Buchi) api.Buchi {
	var order []int
	number := func(q int) int {
		if !slices.Contains(order, q) {
			order = append(order, q)
		}
		return slices.Index(order, q)
	}
	made := api.Buchi{Props: a.Props}
	for _, q := range a.Init {
		made.Init = append(made.Init, number(q))
	}
	for n := 0; n < len(order); n++ {
		if slices.Contains(a.Final, order[n]) {
			made.Final = append(made.Final, n)
		}
		for _, e := range a.Edges {
			if e.From == order[n] {
				made.Edges = append(made.Edges, edge(n, number(e.To), e.Must, e.Not))
			}
		}
	}
	made.States = len(order)
	slices.Sort(made.Init)
	slices.SortFunc(made.Edges, rising)
	made.Edges = slices.Compact(made.Edges)
	return made
}

// bothByHand is the General of pairs that Both is Degen of.
func bothByHand(a, b api.Buchi) api.General {
	g := api.General{Props: a.Props, States: a.States * b.States, Sets: [][]int{nil, nil}}
	for p := range a.States {
		for q := range b.States {
			n := p*b.States + q
			if slices.Contains(a.Init, p) && slices.Contains(b.Init, q) {
				g.Init = append(g.Init, n)
			}
			if slices.Contains(a.Final, p) {
				g.Sets[0] = append(g.Sets[0], n)
			}
			if slices.Contains(b.Final, q) {
				g.Sets[1] = append(g.Sets[1], n)
			}
		}
	}
	for _, e := range a.Edges {
		for _, f := range b.Edges {
			if e.Must&f.Not == 0 && f.Must&e.Not == 0 {
				g.Edges = append(g.Edges, edge(e.From*b.States+f.From, e.To*b.States+f.To, e.Must|f.Must, e.Not|f.Not))
			}
		}
	}
	slices.SortFunc(g.Edges, rising)
	g.Edges = slices.Compact(g.Edges)
	return g
}

func TestDegenByHand(t *testing.T) {
	d := draw(6)
	states := map[int]int{}
	for range 3000 {
		g := d.general(6, d.below(4), 4)
		got, err := buchi.Degen(g)
		want := degenByHand(g)
		made(t, fmt.Sprintf("Degen of %+v", g), got, err, want)
		states[len(g.Sets)] += got.States
	}
	for sets := range 5 {
		if states[sets] < 1000 {
			t.Errorf("%d sets: %d states in all", sets, states[sets])
		}
	}
}

func TestTrimByHand(t *testing.T) {
	d := draw(7)
	var fewer, as int
	for range 3000 {
		a := d.automaton(7, d.below(4))
		got, err := buchi.Trim(a)
		made(t, fmt.Sprintf("Trim of %+v", a), got, err, breadthByHand(a))
		again, err := buchi.Trim(got)
		made(t, "Trim of Trim", again, err, got)
		if got.States < a.States {
			fewer++
		} else {
			as++
		}
	}
	if fewer < 500 || as < 200 {
		t.Errorf("%d have fewer states, %d as many", fewer, as)
	}
}

func TestBothByHand(t *testing.T) {
	d := draw(8)
	states := 0
	for range 5000 {
		props := d.below(4)
		a, b := d.automaton(5, props), d.automaton(5, props)
		g := bothByHand(a, b)
		got, err := buchi.Both(a, b)
		made(t, fmt.Sprintf("Both of %+v and %+v", a, b), got, err, degenByHand(g))
		other, err := buchi.Degen(g)
		made(t, "Degen of the General of pairs", other, err, got)
		states += got.States
	}
	if states < 10000 {
		t.Errorf("%d states in all", states)
	}
}

// The order of the edges of pairs: an edge of a to a state does not go with b's edge to the lesser one, the next edge of a to the same state does.
func TestBothOrder(t *testing.T) {
	a := api.Buchi{Props: ab(), States: 2, Init: []int{0}, Edges: []api.Edge{{From: 0, To: 1, Not: 1}, {From: 0, To: 1, Must: 1}}, Final: []int{1}}
	b := api.Buchi{Props: ab(), States: 3, Init: []int{0}, Edges: []api.Edge{{From: 0, To: 1, Must: 1}, {From: 0, To: 2}}, Final: []int{1}}
	got, err := buchi.Both(a, b)
	made(t, "Both", got, err, api.Buchi{Props: ab(), States: 3, Init: []int{0}, Edges: []api.Edge{{From: 0, To: 1, Must: 1}, {From: 0, To: 2, Not: 1}, {From: 0, To: 2, Must: 1}}})
	got, err = buchi.Both(b, a)
	made(t, "Both, turned", got, err, api.Buchi{Props: ab(), States: 3, Init: []int{0}, Edges: []api.Edge{{From: 0, To: 1, Must: 1}, {From: 0, To: 2, Not: 1}, {From: 0, To: 2, Must: 1}}})
}

// Several edges that come to one stand there once; edges that can go with no letter together are none.
func TestBothEdges(t *testing.T) {
	a := api.Buchi{Props: ab(), States: 1, Init: []int{0}, Edges: []api.Edge{{}, {Not: 1}, {Must: 1}}, Final: []int{0}}
	b := api.Buchi{Props: ab(), States: 1, Init: []int{0}, Edges: []api.Edge{{}, {Must: 1}, {Must: 2}}, Final: []int{0}}
	got, err := buchi.Both(a, b)
	row := func(from, to int) []api.Edge {
		return []api.Edge{edge(from, to, 0, 0), edge(from, to, 0, 1), edge(from, to, 1, 0), edge(from, to, 2, 0), edge(from, to, 2, 1), edge(from, to, 3, 0)}
	}
	made(t, "Both", got, err, api.Buchi{Props: ab(), States: 2, Init: []int{0}, Edges: append(row(0, 1), row(1, 0)...), Final: []int{1}})
	a.Edges, b.Edges = []api.Edge{{Must: 1}}, []api.Edge{{Not: 1}}
	got, err = buchi.Both(a, b)
	made(t, "Both of what never goes together", got, err, api.Buchi{Props: ab(), States: 1, Init: []int{0}})
	got, err = buchi.Both(b, a)
	made(t, "the same, turned", got, err, api.Buchi{Props: ab(), States: 1, Init: []int{0}})
}

// Degen by hand: without sets; with one; with an empty set; with more beginnings; what is not reached goes.
func TestDegenEdges(t *testing.T) {
	path := []api.Edge{{From: 0, To: 2}, {From: 1, To: 1}, {From: 2, To: 0}, {From: 2, To: 2}}
	for _, c := range []struct {
		who  string
		g    api.General
		want api.Buchi
	}{
		{"nothing", api.General{}, api.Buchi{}},
		{"nothing, with sets", api.General{Props: ab(), Sets: [][]int{nil, nil}}, api.Buchi{Props: ab()}},
		{"no Init", api.General{Props: ab(), States: 3, Edges: path, Sets: [][]int{{0}}}, api.Buchi{Props: ab()}},
		{"no sets", api.General{States: 3, Init: []int{2}, Edges: path}, api.Buchi{States: 2, Init: []int{0}, Edges: []api.Edge{{From: 0, To: 0}, {From: 0, To: 1}, {From: 1, To: 0}}, Final: []int{0, 1}}},
		{"one set", api.General{States: 3, Init: []int{2}, Edges: path, Sets: [][]int{{0, 1}}}, api.Buchi{States: 2, Init: []int{0}, Edges: []api.Edge{{From: 0, To: 0}, {From: 0, To: 1}, {From: 1, To: 0}}, Final: []int{1}}},
		{"an empty set", api.General{States: 3, Init: []int{0}, Edges: path, Sets: [][]int{nil}}, api.Buchi{States: 2, Init: []int{0}, Edges: []api.Edge{{From: 0, To: 1}, {From: 1, To: 0}, {From: 1, To: 1}}}},
		{"an empty set first", api.General{States: 3, Init: []int{0}, Edges: path, Sets: [][]int{nil, {0, 1, 2}}}, api.Buchi{States: 2, Init: []int{0}, Edges: []api.Edge{{From: 0, To: 1}, {From: 1, To: 0}, {From: 1, To: 1}}}},
		{"two beginnings, no sets", api.General{States: 3, Init: []int{1, 2}, Edges: path}, api.Buchi{States: 3, Init: []int{0, 1}, Edges: []api.Edge{{From: 0, To: 0}, {From: 1, To: 1}, {From: 1, To: 2}, {From: 2, To: 1}}, Final: []int{0, 1, 2}}},
		{"in both sets: one state for each", api.General{States: 1, Init: []int{0}, Edges: []api.Edge{{}}, Sets: [][]int{{0}, {0}}}, api.Buchi{States: 2, Init: []int{0}, Edges: []api.Edge{{From: 0, To: 1}, {From: 1, To: 0}}, Final: []int{1}}},
		{"three sets", api.General{States: 1, Init: []int{0}, Edges: []api.Edge{{}}, Sets: [][]int{{0}, {0}, {0}}}, api.Buchi{States: 3, Init: []int{0}, Edges: []api.Edge{{From: 0, To: 1}, {From: 1, To: 2}, {From: 2, To: 0}}, Final: []int{2}}},
		{"the last set is never met", api.General{States: 1, Init: []int{0}, Edges: []api.Edge{{}}, Sets: [][]int{{0}, {}}}, api.Buchi{States: 2, Init: []int{0}, Edges: []api.Edge{{From: 0, To: 1}, {From: 1, To: 1}}}},
	} {
		got, err := buchi.Degen(c.g)
		made(t, c.who, got, err, c.want)
		if !same(degenByHand(c.g), c.want) {
			t.Errorf("%s: by hand", c.who)
		}
	}
}

// A numbering by breadth, not by depth and not by the old numbers; edges that rise anew.
func TestTrimOrder(t *testing.T) {
	a := api.Buchi{Props: ab(), States: 7, Init: []int{3, 5}, Final: []int{0, 1, 4, 6},
		Edges: []api.Edge{{From: 0, To: 5}, {From: 1, To: 0, Must: 1}, {From: 1, To: 2}, {From: 3, To: 4, Not: 2}, {From: 3, To: 5, Must: 2}, {From: 4, To: 0}, {From: 4, To: 3}, {From: 5, To: 2}, {From: 6, To: 3}}}
	got, err := buchi.Trim(a)
	made(t, "Trim", got, err, api.Buchi{Props: ab(), States: 5, Init: []int{0, 1}, Final: []int{2, 4},
		Edges: []api.Edge{{From: 0, To: 1, Must: 2}, {From: 0, To: 2, Not: 2}, {From: 1, To: 3}, {From: 2, To: 0}, {From: 2, To: 4}, {From: 4, To: 1}}})
}
