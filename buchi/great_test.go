package buchi_test

import (
	"testing"

	"augur/api"
	"augur/bits"
	"augur/buchi"
)

const most = 65536

// star leads from the state 0 to all others, and from each to itself.
func star(n int) api.Buchi {
	a := api.Buchi{States: n, Init: []int{0}}
	for i := range n {
		a.Edges = append(a.Edges, api.Edge{From: 0, To: i})
	}
	for i := 1; i < n; i++ {
		a.Edges = append(a.Edges, api.Edge{From: i, To: i})
	}
	return a
}

// oneRing is a ring with final states.
func oneRing(n int) api.Buchi {
	g := ring(n)
	return api.Buchi{States: n, Init: g.Init, Edges: g.Edges, Final: g.Sets[0]}
}

// wantMuch wants it refused, and nothing beside that.
func wantMuch(t *testing.T, who string, got api.Buchi, err api.Errno) {
	t.Helper()
	if err != api.ErrMuch || !isZero(got) {
		t.Errorf("%s: %d states, %v", who, got.States, err)
	}
}

// wantStates wants a right automaton of as many states.
func wantStates(t *testing.T, who string, got api.Buchi, err api.Errno, states int) {
	t.Helper()
	if err != api.OK || got.States != states || buchi.Check(got) != api.OK {
		t.Errorf("%s: %d states, %v; want %d", who, got.States, err, states)
	}
}

// As many states as there may be, and one more.
func TestDegenMost(t *testing.T) {
	full := ring(most)
	for _, sets := range [][][]int{nil, {nil}, {{0, 5, most - 1}}, {below(most)}, {nil, nil}, {nil, {0}}} {
		full.Sets = sets
		got, err := buchi.Degen(full)
		wantStates(t, "a full ring", got, err, most)
	}
	full.Sets = [][]int{{most - 1}, nil} // (0, 0) to (most - 1, 0), and then (0, 1)
	got, err := buchi.Degen(full)
	wantMuch(t, "one more", got, err)
	half := ring(most / 2)
	half.Sets = [][]int{{most/2 - 1}, {most/2 - 1}}
	got, err = buchi.Degen(half)
	wantStates(t, "half a ring, twice", got, err, most)
	half = ring(most/2 + 1)
	half.Sets = [][]int{{most / 2}, {most / 2}}
	got, err = buchi.Degen(half)
	wantMuch(t, "more than half a ring, twice", got, err)
}

// One state, and a set for each of its turns.
func TestDegenManySets(t *testing.T) {
	g := api.General{States: 1, Init: []int{0}, Edges: []api.Edge{{}}}
	for range most {
		g.Sets = append(g.Sets, []int{0})
	}
	got, err := buchi.Degen(g)
	wantStates(t, "a set for each state", got, err, most)
	if len(got.Final) != 1 || got.Final[0] != most-1 {
		t.Errorf("Final: %v", got.Final)
	}
	wantAccepts(t, g, loop(0), true)
	g.Sets = append(g.Sets, []int{0})
	got, err = buchi.Degen(g)
	wantMuch(t, "one set more", got, err)
	wantAccepts(t, g, loop(0), true)
	g.Sets[0] = nil // and so the others are not waited for
	got, err = buchi.Degen(g)
	wantStates(t, "the first set is never met", got, err, 1)
	wantAccepts(t, g, loop(0), false)
}

// Trim has never more states than it is given.
func TestTrimMost(t *testing.T) {
	a := oneRing(most)
	got, err := buchi.Trim(a)
	made(t, "a full ring", got, err, a)
	a.Init = below(most)
	got, err = buchi.Trim(a)
	made(t, "all are beginnings", got, err, a)
	a = star(most)
	a.Final = below(most)
	got, err = buchi.Trim(a)
	made(t, "a star", got, err, a)
	a.Init = []int{most - 1}
	got, err = buchi.Trim(a)
	made(t, "an end of a star", got, err, api.Buchi{States: 1, Init: []int{0}, Edges: []api.Edge{{}}, Final: []int{0}})
}

// Both is not refused for states that are not reached, however many there are.
func TestBothMost(t *testing.T) {
	full := oneRing(most)
	got, err := buchi.Both(full, full) // in step: (i, i); behind the last one b's final states are waited for
	wantMuch(t, "a full ring and itself", got, err)
	none := full
	none.Final = nil
	got, err = buchi.Both(none, full)
	wantStates(t, "without final states in the first", got, err, most)
	got, err = buchi.Both(none, none)
	wantStates(t, "without final states", got, err, most)
	got, err = buchi.Both(full, none)
	wantMuch(t, "without final states in the second", got, err)
	half := oneRing(most / 2)
	got, err = buchi.Both(half, half)
	wantStates(t, "half a ring and itself", got, err, most)
	// 255 times 257 is one less than most.
	a, b := oneRing(255), oneRing(257)
	a.Final, b.Final = nil, nil
	got, err = buchi.Both(a, b)
	wantStates(t, "two rings without a common factor", got, err, 255*257)
	a.Final = []int{0} // (0, 0, 0), and then all with b's final states waited for
	got, err = buchi.Both(a, b)
	wantStates(t, "the same, the first state final", got, err, most)
	a.Final = []int{1}
	got, err = buchi.Both(a, b)
	wantMuch(t, "the same, the second state final", got, err)
	a, b = oneRing(256), oneRing(257)
	a.Final, b.Final = nil, nil
	got, err = buchi.Both(a, b)
	wantMuch(t, "two greater rings without a common factor", got, err)
}

// Far too many are told ahead of going through all of them: beginnings, or edges.
func TestBothFarTooMany(t *testing.T) {
	a := star(most)
	got, err := buchi.Both(a, a)
	wantMuch(t, "stars", got, err)
	a.Init = below(most)
	got, err = buchi.Both(a, a)
	wantMuch(t, "all are beginnings", got, err)
	b := api.Buchi{States: 1, Init: []int{0}, Edges: []api.Edge{{}}}
	got, err = buchi.Both(a, b)
	wantStates(t, "all beginnings and one state", got, err, most)
	got, err = buchi.Both(b, a)
	wantStates(t, "one state and all beginnings", got, err, most)
	few := api.Buchi{States: 2, Init: []int{0, 1}, Edges: []api.Edge{{From: 0, To: 0}, {From: 1, To: 1}}}
	got, err = buchi.Both(a, few)
	wantMuch(t, "all beginnings and two", got, err)
	a.Init = nil
	got, err = buchi.Both(a, few)
	wantStates(t, "no beginnings", got, err, 0)
}

// Long ways and long words.
func TestAcceptsGreat(t *testing.T) {
	full := ring(most)
	full.Props = []string{"a"}
	wantAccepts(t, full, loop(0), true)
	wantAccepts(t, full, loop(0, 1), true)
	wantAccepts(t, full, loop(0, 1, 1), true)
	cut := full
	cut.Edges = full.Edges[:most-1]
	cut.Sets = [][]int{below(most)}
	wantAccepts(t, cut, loop(0), false) // one comes to an end, however long it takes
	cut.Sets = nil
	wantAccepts(t, cut, loop(0, 1), false)
	long := api.Word{Stem: make([]uint16, 100000), Loop: make([]uint16, 100001)}
	long.Stem[99999], long.Loop[77] = 1, 1
	small := oneSet(api.Buchi{Props: []string{"a"}, States: 2, Init: []int{0}, Edges: []api.Edge{{From: 0, To: 0, Not: 1}, {From: 0, To: 1, Must: 1}, {From: 1, To: 0}}, Final: []int{1}})
	wantAccepts(t, small, long, true)
	long.Loop[78] = 1
	long.Loop[79] = 1
	wantAccepts(t, small, long, true)
	small.Edges[2].Not = 1
	wantAccepts(t, small, long, false)
	// Many states and many places, of which few come together.
	step := api.Word{Loop: make([]uint16, most/4)}
	step.Loop[5] = 1
	wantAccepts(t, full, step, true)
	full.Edges[most-1].Must = 1 // with the letter at the loop's last place
	wantAccepts(t, full, step, false)
	step.Loop[most/4-1] = 1
	wantAccepts(t, full, step, true)
}

// The last state, and a set that has all of them.
func TestStepGreat(t *testing.T) {
	a := oneRing(most)
	if got := buchi.Step(a, bits.Of(most, most-1), 0); got == nil || !got.Same(bits.Of(most, 0)) {
		t.Error("from the last one")
	}
	if got := buchi.Step(a, bits.Of(most, most-2), 0); got == nil || !got.Same(bits.Of(most, most-1)) {
		t.Error("to the last one")
	}
	all := bits.Of(most, below(most)...)
	if got := buchi.Step(a, all, 0); got == nil || !got.Same(all) {
		t.Error("all of them")
	}
}
