package dfa_test

import (
	"slices"
	"testing"

	"augur/api"
	"augur/bits"
	"augur/dfa"
)

const greatest = 65536

// ring goes through so many states, with all letters.
func ring(n int) api.Buchi {
	a := api.Buchi{States: n, Init: []int{0}}
	for q := range n {
		a.Edges = append(a.Edges, api.Edge{From: q, To: (q + 1) % n})
	}
	return a
}

// wantOften wants so many states, a limit that is just great enough, and one that is too small refused.
func wantOften(t *testing.T, who string, a api.Buchi, live *bits.Set, want int) api.DFA {
	t.Helper()
	d, err := dfa.Build(a, live, want)
	if err != api.OK || len(d.Next) != want || dfa.Check(d) != api.OK {
		t.Fatalf("%s: %d states, %v; want %d", who, len(d.Next), err, want)
	}
	if d, err := dfa.Build(a, live, want-1); err != api.ErrLimitStates || !isZero(d) {
		t.Fatalf("%s, one less: %d states, %v", who, len(d.Next), err)
	}
	return d
}

// As many states as an automaton may have; and few or many subsets of them.
func TestGreat(t *testing.T) {
	a := ring(greatest)
	if d, err := dfa.Build(a, full(greatest), 500); err != api.ErrLimitStates || !isZero(d) {
		t.Errorf("a ring: %d states, %v", len(d.Next), err)
	}
	a.Init = below(greatest)
	d := wantOften(t, "all of a ring", a, full(greatest), 1)
	if !d.Live[0] {
		t.Error("all of a ring is not live")
	}
	// The last state is the only one that is not live: one state less at each letter.
	live := full(greatest)
	live.Cut(greatest - 1)
	if d, err := dfa.Build(a, live, 300); err != api.ErrLimitStates || !isZero(d) {
		t.Errorf("all but one: %d states, %v", len(d.Next), err)
	}
	a.Init = []int{greatest - 102}
	d = wantOften(t, "the end of a ring", a, live, 102)
	if !d.Live[100] || d.Live[101] || d.Next[100][0] != 101 || d.Next[101][0] != 101 {
		t.Errorf("the end of a ring: %v, %v", d.Live, d.Next)
	}
	// From one state to all of them.
	star := api.Buchi{Props: names8()[:4], States: greatest, Init: []int{0}}
	for q := range greatest {
		star.Edges = append(star.Edges, api.Edge{From: 0, To: q, Must: uint16(q >> 12)})
	}
	d = wantOften(t, "a star", star, full(greatest), 17) // by each letter others, the first state among them
	if d.Next[0][0] != 1 || d.Next[0][15] != 16 || !slices.Equal(d.Next[16], d.Next[0]) {
		t.Errorf("a star: %v", d.Next[:2])
	}
}

// A long ring: a state for each of its states.
func TestLongRing(t *testing.T) {
	const n = 4096
	a := ring(n)
	a.Props = names8()
	for q := range a.Edges {
		a.Edges[q].Must, a.Edges[q].Not = uint16(q%256), uint16(255-q%256)
	}
	d := wantOften(t, "a ring", a, full(n), n+1) // and the empty one
	u := make([]uint16, 100*n)
	for i := range u {
		u[i] = uint16(i % 256)
	}
	state, err := dfa.Run(d, u...)
	if has, err2 := dfa.Has(d, u...); state != 0 || !has || err != api.OK || err2 != api.OK {
		t.Errorf("100 times round: %d, %v, %v, %v", state, has, err, err2)
	}
	u[len(u)-1] = 0
	if has, err := dfa.Has(d, u...); has || err != api.OK {
		t.Errorf("a wrong letter at the end: %v, %v", has, err)
	}
}

// guess waits for a letter that came so many letters ago: there are as many subsets as rows of that length.
func guess(props, n int) api.Buchi {
	edges := []api.Edge{{From: 0, To: 0}, {From: 0, To: 1, Must: 1}}
	for q := 1; q < n; q++ {
		edges = append(edges, api.Edge{From: q, To: q + 1})
	}
	return automaton(props, n+1, []int{0}, edges...)
}

// Subsets are many more than states; and where they are far too many, that is told as soon as there are more than most.
func TestManySubsets(t *testing.T) {
	d := wantOften(t, "the last 12 letters", guess(1, 12), full(13), 1<<12)
	for n, row := range d.Next {
		// They come in the order of the numbers whose bits are their last letters, the last one the least.
		if want := []int{2 * n % 4096, (2*n + 1) % 4096}; !slices.Equal(row, want) {
			t.Fatalf("from %d: %v, want %v", n, row, want)
		}
	}
	wantOften(t, "the last 8 letters, over 8 names", guess(8, 8), full(9), 1<<8)
	for _, a := range []api.Buchi{guess(1, 60), guess(8, 100), guess(2, 1000)} {
		if d, err := dfa.Build(a, full(a.States), 3000); err != api.ErrLimitStates || !isZero(d) {
			t.Errorf("%d states: %d, %v", a.States, len(d.Next), err)
		}
	}
}

// Edges between all states, over all names.
func TestDense(t *testing.T) {
	const n = 700
	a := api.Buchi{Props: names8(), States: n, Init: []int{3}}
	for q := range n {
		for r := range n {
			a.Edges = append(a.Edges, api.Edge{From: q, To: r, Must: uint16(q % 256)})
		}
	}
	live := full(n)
	d := wantOften(t, "all edges", a, live, 3) // one state, none, all of them
	for letter, to := range d.Next[0] {
		if goes := letter&3 == 3; goes && to != 2 || !goes && to != 1 {
			t.Fatalf("by %d: %d", letter, to)
		}
	}
	if d.Next[2][0] != 2 || d.Next[2][255] != 2 || !d.Live[2] || d.Live[1] {
		t.Errorf("%v, %v", d.Live, d.Next[2])
	}
}

// A DFA of very many states.
func TestGreatDFA(t *testing.T) {
	const n = 300000
	d := api.DFA{Next: make([][]int, n), Live: make([]bool, n)}
	for q := range d.Next {
		d.Next[q] = []int{(q + 1) % n}
	}
	d.Live[n-1] = true
	if err := dfa.Check(d); err != api.OK {
		t.Fatal(err)
	}
	if has, err := dfa.Has(d, make([]uint16, 3*n-1)...); !has || err != api.OK {
		t.Errorf("%v, %v", has, err)
	}
	if state, err := dfa.Run(d, make([]uint16, 2*n+5)...); state != 5 || err != api.OK {
		t.Errorf("%d, %v", state, err)
	}
	d.Next[n-1][0] = n
	if err := dfa.Check(d); err != api.ErrDFAForm {
		t.Error(err)
	}
}
