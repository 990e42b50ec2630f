package buchi_test

import (
	"slices"
	"testing"

	"augur/api"
	"augur/buchi"
	"augur/words"
)

// spot is a state at a place of a word.
type spot struct{ state, place int }

// behind are the spots to which one comes from a spot.
func behind(edges []api.Edge, w api.Word, s spot) []spot {
	letter := words.At(w, s.place)
	var list []spot
	for _, e := range edges {
		if e.From == s.state && letter&e.Must == e.Must && letter&e.Not == 0 {
			list = append(list, spot{e.To, words.Behind(w, s.place)})
		}
	}
	return list
}

// reached are those and all that come behind them.
func reached(edges []api.Edge, w api.Word, first []spot) map[spot]bool {
	seen := map[spot]bool{}
	for len(first) > 0 {
		s := first[0]
		first = first[1:]
		if !seen[s] {
			seen[s] = true
			first = append(first, behind(edges, w, s)...)
		}
	}
	return seen
}

// acceptsByHand looks for a spot that a run reaches and comes back to, and from which it meets all sets on the way back.
func acceptsByHand(g api.General, w api.Word) bool {
	var first []spot
	for _, q := range g.Init {
		first = append(first, spot{q, 0})
	}
	all := reached(g.Edges, w, first)
	after := map[spot]map[spot]bool{} // what comes behind each, one edge at least
	for s := range all {
		after[s] = reached(g.Edges, w, behind(g.Edges, w, s))
	}
	for s := range all {
		if !after[s][s] {
			continue
		}
		meets := func(set []int) bool {
			for r := range all {
				if slices.Contains(set, r.state) && after[s][r] && after[r][s] {
					return true
				}
			}
			return false
		}
		if !slices.ContainsFunc(g.Sets, func(set []int) bool { return !meets(set) }) {
			return true
		}
	}
	return false
}

// wantAccepts wants of a General, and of a Buchi where it has one set, that answer.
func wantAccepts(t *testing.T, g api.General, w api.Word, want bool) {
	t.Helper()
	if is, err := buchi.AcceptsGeneral(g, w); is != want || err != api.OK {
		t.Fatalf("AcceptsGeneral of %+v, %s: %v, %v", g, words.Show(w), is, err)
	}
	if len(g.Sets) == 1 {
		a := api.Buchi{Props: g.Props, States: g.States, Init: g.Init, Edges: g.Edges, Final: g.Sets[0]}
		if is, err := buchi.Accepts(a, w); is != want || err != api.OK {
			t.Fatalf("Accepts of %+v, %s: %v, %v", a, words.Show(w), is, err)
		}
	}
}

// Small automata, on all small words and on some longer ones.
func TestAcceptsByHand(t *testing.T) {
	d := draw(3)
	var yes, no [4]int
	for range 1500 {
		props := d.below(3)
		g := d.general(5, props, 3)
		list := slices.Collect(words.All(props, 2))
		for range 6 {
			list = append(list, d.word(props, 5, 5))
		}
		for _, w := range list {
			want := acceptsByHand(g, w)
			wantAccepts(t, g, w, want)
			if want {
				yes[len(g.Sets)]++
			} else {
				no[len(g.Sets)]++
			}
		}
	}
	for sets := range yes {
		if yes[sets] < 100 || no[sets] < 100 {
			t.Errorf("%d sets: %d accepted, %d not", sets, yes[sets], no[sets])
		}
	}
}

// By hand: which edges go, what a run has to meet, and how often.
func TestAcceptsEdges(t *testing.T) {
	all := api.Edge{}
	for _, c := range []struct {
		who  string
		g    api.General
		w    api.Word
		want bool
	}{
		{"no states", api.General{}, loop(0), false},
		{"no Init", api.General{States: 1, Edges: []api.Edge{all}}, loop(0), false},
		{"no edges", api.General{States: 1, Init: []int{0}}, loop(0), false},
		{"no sets", api.General{States: 1, Init: []int{0}, Edges: []api.Edge{all}}, loop(0), true},
		{"no sets, an end", api.General{States: 2, Init: []int{0}, Edges: []api.Edge{{From: 0, To: 1}}}, loop(0), false},
		{"an empty set", api.General{States: 1, Init: []int{0}, Edges: []api.Edge{all}, Sets: [][]int{{}}}, loop(0), false},
		{"an empty set behind a full one", api.General{States: 1, Init: []int{0}, Edges: []api.Edge{all}, Sets: [][]int{{0}, {}}}, loop(0), false},
		{"met once alone", api.General{States: 2, Init: []int{0}, Edges: []api.Edge{{From: 0, To: 1}, {From: 1, To: 1}}, Sets: [][]int{{0}}}, loop(0), false},
		{"met at last, for ever", api.General{States: 2, Init: []int{0}, Edges: []api.Edge{{From: 0, To: 1}, {From: 1, To: 1}}, Sets: [][]int{{1}}}, loop(0), true},
		{"two sets, each met for ever on another way", api.General{States: 3, Init: []int{0}, Edges: []api.Edge{{From: 0, To: 1}, {From: 0, To: 2}, {From: 1, To: 1}, {From: 2, To: 2}}, Sets: [][]int{{1}, {2}}}, loop(0), false},
		{"two sets, met in turn", api.General{States: 2, Init: []int{0}, Edges: []api.Edge{{From: 0, To: 1}, {From: 1, To: 0}}, Sets: [][]int{{0}, {1}}}, loop(0), true},
		{"two sets, the one behind the other for ever", api.General{States: 2, Init: []int{0}, Edges: []api.Edge{{From: 0, To: 0}, {From: 0, To: 1}, {From: 1, To: 1}}, Sets: [][]int{{0}, {1}}}, loop(0), false},
		{"one set twice", api.General{States: 1, Init: []int{0}, Edges: []api.Edge{all}, Sets: [][]int{{0}, {0}}}, loop(0), true},
		{"the second beginning", api.General{States: 2, Init: []int{0, 1}, Edges: []api.Edge{{From: 1, To: 1}}, Sets: [][]int{{1}}}, loop(0), true},
		{"a state that is not reached", api.General{States: 2, Init: []int{0}, Edges: []api.Edge{{From: 0, To: 0}, {From: 1, To: 1}}, Sets: [][]int{{1}}}, loop(0), false},
		// One ring of two states, by a and by not a in turn.
		{"in step", inTurn(), loop(1, 0), true}, {"out of step", inTurn(), loop(0, 1), false}, {"half of it", inTurn(), loop(1), false}, {"twice as long", inTurn(), loop(1, 0, 1, 0), true},
		{"three letters", inTurn(), loop(1, 0, 1), false}, {"in step behind a stem", inTurn(), api.Word{Stem: []uint16{1, 0, 1}, Loop: []uint16{0, 1}}, true}, {"out of step behind a stem", inTurn(), api.Word{Stem: []uint16{1}, Loop: []uint16{1, 0}}, false},
		{"a stem that cannot be gone", inTurn(), api.Word{Stem: []uint16{0}, Loop: []uint16{1, 0}}, false},
	} {
		if acceptsByHand(c.g, c.w) != c.want {
			t.Fatalf("%s: by hand", c.who)
		}
		wantAccepts(t, c.g, c.w, c.want)
	}
	// A ring whose length and the loop's have no factor in common: a run comes back to a spot behind all of them.
	for _, n := range []int{1, 2, 3, 7} {
		for _, l := range []int{1, 2, 5, 6} {
			g := ring(n)
			w := api.Word{Loop: make([]uint16, l)}
			w.Loop[l-1] = 1
			g.Props = []string{"a"}
			wantAccepts(t, g, w, true)
		}
	}
}

// inTurn goes with a and with not a in turn.
func inTurn() api.General {
	return api.General{Props: []string{"a"}, States: 2, Init: []int{0}, Edges: []api.Edge{{From: 0, To: 1, Must: 1}, {From: 1, To: 0, Not: 1}}, Sets: [][]int{{1}}}
}

// ring goes through n states, of which the last one is to be met.
func ring(n int) api.General {
	g := api.General{States: n, Init: []int{0}, Sets: [][]int{{n - 1}}}
	for i := range n {
		g.Edges = append(g.Edges, api.Edge{From: i, To: (i + 1) % n})
	}
	return g
}

// What is no word over as many names, of a right automaton.
func TestNoWords(t *testing.T) {
	for props := range 9 {
		a := api.Buchi{Props: names8()[:props], States: 1, Init: []int{0}, Edges: []api.Edge{{}}, Final: []int{0}}
		high := uint16(1) << props
		for _, w := range []api.Word{
			{}, {Stem: []uint16{0}}, {Loop: []uint16{}}, loop(high), loop(0, high), loop(65535), loop(0, 0, high+1), {Stem: []uint16{high}, Loop: []uint16{0}}, {Stem: []uint16{0, 0, 65535}, Loop: []uint16{0}},
			{Stem: []uint16{high}}, {Stem: []uint16{high, 0}, Loop: []uint16{high}},
		} {
			if is, err := buchi.Accepts(a, w); is || err != api.ErrBuchiWord {
				t.Errorf("%d names, %v: %v, %v", props, w, is, err)
			}
			if is, err := buchi.AcceptsGeneral(oneSet(a), w); is || err != api.ErrBuchiWord {
				t.Errorf("%d names, %v: %v, %v", props, w, is, err)
			}
			// Also where nothing is accepted anyway.
			none := api.Buchi{Props: a.Props}
			if is, err := buchi.Accepts(none, w); is || err != api.ErrBuchiWord {
				t.Errorf("no states, %d names, %v: %v, %v", props, w, is, err)
			}
		}
		for _, w := range []api.Word{loop(high - 1), {Stem: []uint16{high - 1, 0}, Loop: []uint16{0, high - 1}}} {
			wantAccepts(t, oneSet(a), w, true)
		}
	}
}

// A chain whose last state is taken away in each round: what is final has no ring, what has a ring is not final.
func TestManyRounds(t *testing.T) {
	const n = 300
	chain := api.General{States: 2 * n, Init: []int{0}, Sets: [][]int{nil}}
	for i := range n {
		chain.Sets[0] = append(chain.Sets[0], 2*i)
		chain.Edges = append(chain.Edges, api.Edge{From: 2 * i, To: 2*i + 1}, api.Edge{From: 2*i + 1, To: 2*i + 1})
		if i < n-1 {
			chain.Edges = append(chain.Edges, api.Edge{From: 2*i + 1, To: 2*i + 2})
		}
	}
	wantAccepts(t, chain, loop(0), false)
	chain.Sets = append(chain.Sets, below(2*n))
	wantAccepts(t, chain, loop(0), false)
	// With the last state final too there is a run.
	chain.Sets[0] = append(chain.Sets[0], 2*n-1)
	wantAccepts(t, chain, loop(0), true)
	chain.Sets = chain.Sets[:1]
	wantAccepts(t, chain, loop(0), true)
}

// Many sets: each is to be met.
func TestManySets(t *testing.T) {
	const n = 60
	g := ring(n)
	g.Sets = nil
	for i := range n {
		g.Sets = append(g.Sets, []int{n - 1 - i})
	}
	wantAccepts(t, g, loop(0), true)
	for i := range n {
		short := g
		short.Edges = slices.Clone(g.Edges)
		short.Edges[n-1].To = i // from the last one back to i: those ahead of it are met once
		wantAccepts(t, short, loop(0), i == 0)
	}
	g.Sets = append(g.Sets, nil)
	wantAccepts(t, g, loop(0), false)
}
