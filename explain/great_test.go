package explain_test

import (
	"runtime/debug"
	"slices"
	"strings"
	"testing"

	"augur/api"
	"augur/explain"
	"augur/synth"
	"augur/words"
)

const many = 1000000

// shallow lets stacks be small while a test runs: calls within calls, along a way as long as these, would end the tests.
func shallow(t *testing.T) {
	was := debug.SetMaxStack(1 << 20)
	t.Cleanup(func() { debug.SetMaxStack(was) })
}

// made is a machine of so many states whose ways and verdicts are told.
func made(props, n int, next func(state, letter int) int, says func(state int) api.Verdict) api.Moore {
	m := api.Moore{Props: names8()[:props], Next: make([][]int, n), Out: make([]api.Verdict, n)}
	for s := range n {
		m.Next[s] = make([]int, 1<<props)
		for letter := range m.Next[s] {
			m.Next[s][letter] = next(s, letter)
		}
		m.Out[s] = says(s)
	}
	return m
}

// only says v at one state, Inconclusive at all others.
func only(at int, v api.Verdict) func(int) api.Verdict {
	return func(s int) api.Verdict {
		if s == at {
			return v
		}
		return api.Inconclusive
	}
}

func below(n int) []int {
	list := make([]int, n)
	for i := range list {
		list[i] = i
	}
	return list
}

// A long way, to its end and to a state within it; and back from its end, by other numbers.
func TestLongWay(t *testing.T) {
	shallow(t)
	on := func(s, letter int) int { return min(s+letter, many-1) }
	m := made(1, many, on, only(many-1, api.True))
	wantNearest(t, m, 0, api.True, slices.Repeat([]uint16{1}, many-1), true)
	wantNearest(t, m, many-3, api.True, []uint16{1, 1}, true)
	wantNearest(t, m, 0, api.False, nil, false)
	wantNearest(t, m, many-1, api.Inconclusive, nil, false)
	wantDead(t, m)
	m.Out[many-1], m.Out[700000] = api.Inconclusive, api.False
	wantNearest(t, m, 300000, api.False, slices.Repeat([]uint16{1}, 400000), true)
	wantDead(t, m, below(many)[700001:]...)
	back := made(0, many, func(s, _ int) int { return max(0, s-1) }, only(0, api.False))
	wantNearest(t, back, many-1, api.False, make([]uint16, many-1), true)
	wantDead(t, back)
	back.Out[0] = api.Inconclusive
	wantNearest(t, back, many-1, api.False, nil, false)
	wantDead(t, back, below(many)...)
}

// A long ring, and many ways as long: each step by either letter.
func TestLongRing(t *testing.T) {
	shallow(t)
	m := made(1, many, func(s, letter int) int { return (s + 1 + letter) % many }, only(many-1, api.True))
	wantNearest(t, m, 0, api.True, append([]uint16{0}, slices.Repeat([]uint16{1}, many/2-1)...), true)
	wantDead(t, m)
	m = made(2, 200000, func(s, _ int) int { return (s + 1) % 200000 }, only(199999, api.False))
	wantNearest(t, m, 0, api.False, make([]uint16, 199999), true)
}

// Many letters, many states, ways that look like anything: as by pairs, by hand.
func TestGreatDrawn(t *testing.T) {
	d := draw(61)
	m := made(8, 2000, func(int, int) int { return d.below(2000) }, only(1999, api.True))
	for _, state := range []int{0, 7, 1000} {
		want := byPairs(m, state)[1999]
		wantNearest(t, m, state, api.True, want, true)
	}
	wantDead(t, m)
}

// A row of a million letters, and rows that never come to the same letters twice in a row.
func TestWitnessBehindMany(t *testing.T) {
	d := draw(62)
	u := make([]uint16, many)
	for i := range u {
		u[i] = uint16(1 + 2*d.below(128))
	}
	f := read("G (a -> F b) & (a U (c & X d) | G a)")
	holds, fails, err := explain.Witness(f, names8(), u...)
	if err != api.OK || len(holds) != 1 || len(fails) != 1 {
		t.Fatal(len(holds), len(fails), err)
	}
	for _, w := range slices.Concat(holds, fails) {
		isOther := func(i int) bool { return words.At(w, i) != u[i] }
		if slices.ContainsFunc(below(many), isOther) {
			t.Error("it does not begin with the letters")
		}
	}
	wantWitness(t, read("G a"), names8()[:1], slices.Repeat([]uint16{1}, many), "(1)", strings.Repeat("1 ", many)+"(0)")
	wantWitness(t, read("F !a"), names8()[:1], slices.Repeat([]uint16{1}, many), strings.Repeat("1 ", many)+"(0)", "(1)")
}

// Formulas as great as the limits allow.
func TestGreatFormulas(t *testing.T) {
	l := synth.Default()
	deep := chain(l.Depth-3, api.OpNext, read("a U b"))
	wantClass(t, deep, ab(), api.Class{CoSafe: true, Monitorable: true})
	wantWitness(t, deep, ab(), nil, strings.Repeat("0 ", l.Depth-3)+"2 (0)", "(0)")
	wide := spread(api.OpAnd, slices.Repeat([]api.Formula{prop("a")}, 67)...) // its negation has 200 nodes, but few unlike ones
	wantClass(t, wide, ab(), api.Class{Safe: true, CoSafe: true, Monitorable: true})
	wantWitness(t, chain(l.Depth-1, api.OpNot, prop("a")), ab(), []uint16{2}, "2 (0)", "")
}

// Monitors and automata of hundreds of states: their pairs are many.
func TestGreatClasses(t *testing.T) {
	late := op(api.OpAnd, prop("a"), chain(9, api.OpNext, prop("b")))
	wantClass(t, op(api.OpEvent, late), ab(), api.Class{CoSafe: true, Monitorable: true})
	wantClass(t, not(op(api.OpEvent, late)), ab(), api.Class{Safe: true, Monitorable: true})
	wantClass(t, op(api.OpAnd, op(api.OpEvent, late), read("G F a")), ab(), api.Class{})
	wantClass(t, op(api.OpOr, op(api.OpEvent, late), read("G F a")), ab(), api.Class{Monitorable: true})
	wantClass(t, read("(a W b) & (c W d) & (e W g) & F h"), names8(), api.Class{Monitorable: true})
	m := monitor(t, op(api.OpEvent, late), ab())
	wantNearest(t, m, 0, api.True, append([]uint16{1}, append(make([]uint16, 8), 2)...), true)
	wantDead(t, m)
}
