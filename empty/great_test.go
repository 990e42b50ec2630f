package empty_test

import (
	"runtime/debug"
	"slices"
	"testing"

	"augur/api"
	"augur/bits"
	"augur/empty"
)

const most = 65536

// shallow lets stacks be small while a test runs: calls within calls, along a way as long as these, would end the tests.
func shallow(t *testing.T) {
	was := debug.SetMaxStack(1 << 20)
	t.Cleanup(func() { debug.SetMaxStack(was) })
}

// ring goes through as many states as there may be, by a letter of its own at each seventh one.
func ring(final ...int) api.Buchi {
	a := api.Buchi{Props: []string{"a"}, States: most, Init: []int{0}, Final: final}
	for q := range most {
		a.Edges = append(a.Edges, api.Edge{From: q, To: (q + 1) % most, Must: letterAt(q)})
	}
	return a
}

func letterAt(q int) uint16 {
	if q%7 == 0 {
		return 1
	}
	return 0
}

// wantRing wants from a state of the ring the way to a final one, and then once round.
func wantRing(t *testing.T, a api.Buchi, from, to int, states ...int) {
	t.Helper()
	w, found, err := empty.From(a, states...)
	if err != api.OK || !found || len(w.Stem) != (to-from+most)%most || len(w.Loop) != most {
		t.Fatalf("%d and %d letters, %v, %v", len(w.Stem), len(w.Loop), found, err)
	}
	for i, letter := range slices.Concat(w.Stem, w.Loop) {
		if letter != letterAt((from+i)%most) {
			t.Fatalf("at %d: %d", i, letter)
		}
	}
}

// A long stem and a long loop; and all states final, where not each of them is worth a look at the whole ring.
func TestLongRing(t *testing.T) {
	shallow(t)
	wantRing(t, ring(most-1), 0, most-1, 0)
	wantRing(t, ring(5), 6, 5, 6, 6)
	wantRing(t, ring(100, 40000), 39999, 40000, 101, 39999, 40001)
	all := ring(below(most)...)
	wantRing(t, all, 77, 77, 77)
	wantRing(t, all, 0, 0, below(most)...)
	wantLive(t, all, below(most))
	// A small ring of states that are not final, far along the great one: what leads to it is on no ring, when the great one is cut.
	more := ring(append(below(60000), 60002)...)
	more.Edges = slices.Insert(more.Edges, 60001, api.Edge{From: 60001, To: 60000})
	wantRing(t, more, 9, 9, 9)
	// Without one edge there is no ring.
	all.Edges = slices.Delete(all.Edges, 12345, 12346)
	wantLive(t, all, nil)
	wantFrom(t, all, below(most), api.Word{})
}

// A row of states to a ring at its end.
func TestLongRow(t *testing.T) {
	shallow(t)
	a := ring(below(most)...)
	a.Edges[most-1].To = most - 1
	wantLive(t, a, below(most))
	w, found, err := empty.From(a, 0)
	if err != api.OK || !found || len(w.Stem) != most-1 || len(w.Loop) != 1 {
		t.Errorf("%d and %d letters, %v, %v", len(w.Stem), len(w.Loop), found, err)
	}
	a.Edges[most-1].To, a.Final = most-2, []int{most - 1}
	slices.SortFunc(a.Edges, rising)
	wantLive(t, a, below(most))
}

// Rings within a ring: each state leads to the next ones, all are final. Many rings must be cut till none is left.
func TestManyRings(t *testing.T) {
	const n, steps = 20000, 20
	a := api.Buchi{States: n, Final: below(n)}
	for q := range n {
		for k := range steps {
			a.Edges = append(a.Edges, api.Edge{From: q, To: (q + 1 + k) % n})
		}
	}
	slices.SortFunc(a.Edges, rising)
	wantFrom(t, a, []int{1}, word(nil, make([]uint16, n/steps)...))
	wantFrom(t, a, below(n), word(nil, make([]uint16, n/steps)...))
}

// Edges between all states but from one to itself, all of them final.
func TestDense(t *testing.T) {
	const n = 1200
	a := api.Buchi{Props: []string{"a"}, States: n, Final: below(n)}
	for q := range n {
		for r := range n {
			if q != r {
				a.Edges = append(a.Edges, api.Edge{From: q, To: r, Must: 1})
			}
		}
	}
	wantLive(t, a, below(n))
	wantFrom(t, a, below(n), word(nil, 1, 1))
	wantFrom(t, a, []int{n - 1}, word(nil, 1, 1))
}

// As many ways as there are rows of bits, all as short: none of them is gone twice.
func TestManyWays(t *testing.T) {
	const layers = 5000
	a := api.Buchi{Props: names8()[:2], States: 2*layers + 2, Final: []int{2*layers + 1}}
	for q := range 2 * layers {
		behind := q/2*2 + 2
		// From each state to the one by a, to the other one by b: the least row goes by a alone.
		a.Edges = append(a.Edges, api.Edge{From: q, To: behind, Must: uint16(1 + q%2)}, api.Edge{From: q, To: behind + 1, Must: uint16(2 - q%2)})
	}
	a.Edges = append(a.Edges, api.Edge{From: 2*layers + 1, To: 2*layers + 1, Must: 2})
	w, found, err := empty.From(a, 0, 1)
	if err != api.OK || !found || len(w.Stem) != layers || !slices.Equal(w.Loop, []uint16{2}) {
		t.Fatalf("%d and %d letters, %v, %v", len(w.Stem), len(w.Loop), found, err)
	}
	for i, letter := range w.Stem {
		if letter != 1 {
			t.Fatalf("at %d: %d", i, letter)
		}
	}
}

// All labels that there are, between two states.
func TestManyLabels(t *testing.T) {
	a := api.Buchi{Props: names8(), States: 2, Final: []int{1}}
	for must := range uint16(256) {
		for not := range uint16(256) {
			if must&not == 0 && must > 0 {
				a.Edges = append(a.Edges, api.Edge{From: 0, To: 1, Must: must, Not: not}, api.Edge{From: 1, To: 0, Must: must, Not: not})
			}
		}
	}
	slices.SortFunc(a.Edges, rising)
	wantLive(t, a, []int{0, 1})
	wantFrom(t, a, []int{0}, word([]uint16{1}, 1, 1))
}

// As many states as there may be without anything, and with one ring at the last of them.
func TestMostStates(t *testing.T) {
	a := api.Buchi{States: most, Init: below(most), Final: below(most)}
	wantLive(t, a, nil)
	wantFrom(t, a, below(most), api.Word{})
	a.Edges = []api.Edge{{From: most - 1, To: most - 1}}
	wantLive(t, a, []int{most - 1})
	wantFrom(t, a, below(most), word(nil, 0))
	wantFrom(t, a, below(most-1), api.Word{})
	if live, _ := empty.Live(a); !live.Same(bits.Of(most, most-1)) {
		t.Error("Live")
	}
}
