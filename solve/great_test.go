package solve_test

import (
	"runtime/debug"
	"slices"
	"testing"

	"augur/api"
	"augur/words"
)

// shallow lets stacks be small while a test runs: calls within calls, many times as deep as a formula may be, would end the tests.
func shallow(t *testing.T) {
	was := debug.SetMaxStack(1 << 20)
	t.Cleanup(func() { debug.SetMaxStack(was) })
}

// Formulas as deep and as great as they may be.
func TestGreatFormulas(t *testing.T) {
	shallow(t)
	a := prop("a")
	all := calls()
	one := []string{"a"}
	late := append(make([]uint16, 99), 1)
	wantTold(t, all[0], one, []api.Formula{chain(99, api.OpNext, a)}, true, late, []uint16{0})
	wantTold(t, all[1], one, []api.Formula{chain(98, api.OpNext, a)}, false, make([]uint16, 99), []uint16{0})
	wantTold(t, all[0], one, []api.Formula{chain(99, api.OpNot, a)}, true, []uint16{0}, []uint16{0})
	wantTold(t, all[3], one, []api.Formula{chain(40, api.OpEvent, a), op(api.OpEvent, a)}, true, nil, nil)
	wantTold(t, all[2], one, []api.Formula{chain(98, api.OpAlways, a), chain(97, api.OpNext, a)}, true, nil, nil)
	wantTold(t, all[0], one, []api.Formula{spreadOf(500, api.OpOr, a)}, true, []uint16{1}, []uint16{0})
	wantTold(t, all[1], one, []api.Formula{spreadOf(300, api.OpOr, a)}, false, []uint16{0}, []uint16{0})
	wantTold(t, all[0], one, []api.Formula{op(api.OpAnd, spreadOf(490, api.OpAnd, a), not(a))}, false, nil, nil)
	wantTold(t, all[2], one, []api.Formula{spreadOf(330, api.OpAnd, a), spreadOf(100, api.OpOr, a)}, true, nil, nil)
}

// A long loop: three names that come back after unlike times, all of them at once after long.
func TestLongLoop(t *testing.T) {
	every := func(name string, n int) api.Formula { // so at the first place, and at each n-th one alone
		p := prop(name)
		ahead := []api.Formula{p}
		for i := range n - 1 {
			ahead = append(ahead, chain(i+1, api.OpNext, not(p)))
		}
		return op(api.OpAnd, spread(api.OpAnd, ahead...), op(api.OpAlways, op(api.OpIff, p, chain(n, api.OpNext, p))))
	}
	f := spread(api.OpAnd, every("a", 4), every("b", 3), every("c", 5))
	w, is, err := calls()[0].ask(names8(), f)
	if err != api.OK || !is || len(w.Loop) != 60 {
		t.Fatalf("%v, %v, %v", w, is, err)
	}
	for i := range 200 {
		var want uint16
		for k, n := range []int{4, 3, 5} {
			if i%n == 0 {
				want |= 1 << k
			}
		}
		if letter := words.At(w, i); letter != want {
			t.Errorf("at %d: %d, want %d", i, letter, want)
		}
	}
	wantTold(t, calls()[2], names8(), []api.Formula{f, chain(60, api.OpNext, spread(api.OpAnd, readAll("a", "b", "c")...))}, true, nil, nil)
	wantCore(t, names8(), []api.Formula{every("a", 4), every("b", 3), read("G (a -> !b)"), every("c", 5)}, true, 0, 1, 2)
}

// Cores among formulas that are great by themselves, and all rows of eight, of which none is one.
func TestGreatCores(t *testing.T) {
	shallow(t)
	a := prop("a")
	wantCore(t, ab(), []api.Formula{spreadOf(100, api.OpOr, a), spreadOf(100, api.OpAnd, a), op(api.OpAlways, spreadOf(100, api.OpAnd, not(a)))}, true, 0, 2)
	wantCore(t, ab(), []api.Formula{chain(80, api.OpNext, a), read("G a"), chain(80, api.OpNext, not(a))}, true, 0, 2)
	wantCore(t, names8(), readAll("G a", "F b", "G F c", "F G d", "a U e", "G (b -> X a)", "f W g", "X X h"), false)
	wantCore(t, ab(), slices.Concat(slices.Repeat(readAll("G F a"), 7), readAll("F G !a")), true, 0, 7)
}
