package explain_test

import (
	"slices"
	"testing"

	"augur/api"
	"augur/bits"
	"augur/buchi"
	"augur/empty"
	"augur/explain"
	"augur/nnf"
	"augur/tableau"
	"augur/words"
)

// automaton is that of a form of a formula, as the chapter says it.
func automaton(t *testing.T, form func(api.Formula) (api.Formula, api.Errno), f api.Formula, names []string) api.Buchi {
	t.Helper()
	g, err := form(f)
	if err != api.OK {
		t.Fatal(told(f), err)
	}
	x, err := tableau.Of(g, names, 4096)
	if err != api.OK {
		t.Fatal(told(f), err)
	}
	a, err := buchi.Degen(x.General())
	if err != api.OK {
		t.Fatal(told(f), err)
	}
	return a
}

// wordByHand is what the chapter says of one side, step by step, as a text; "": none.
func wordByHand(t *testing.T, a api.Buchi, u []uint16) string {
	t.Helper()
	q := bits.Of(a.States, a.Init...)
	for _, letter := range u {
		q = buchi.Step(a, q, letter)
	}
	w, found, err := empty.From(a, slices.Collect(q.All())...)
	if err != api.OK {
		t.Fatal(err)
	}
	if !found {
		return ""
	}
	return words.Show(words.Join(u, w))
}

// wantByHand wants both words as the chapter says them, and tells whether there are some.
func wantByHand(t *testing.T, f api.Formula, names []string, can, fail api.Buchi, u []uint16) (bool, bool) {
	t.Helper()
	holds, fails := wordByHand(t, can, u), wordByHand(t, fail, u)
	wantWitness(t, f, names, u, holds, fails)
	return holds != "", fails != ""
}

// Behind all short rows, and behind nothing.
func TestWitnessByHand(t *testing.T) {
	var both, one int
	for _, f := range some(110, 4) {
		can, fail := automaton(t, nnf.Normal, f, ab()), automaton(t, nnf.Dual, f, ab())
		for length := range 3 {
			for _, u := range rows(2, length) {
				holds, fails := wantByHand(t, f, ab(), can, fail, u)
				if holds && fails {
					both++
				} else {
					one++
				}
				if !holds && !fails {
					t.Errorf("%s behind %v: no word at all", told(f), u)
				}
			}
		}
	}
	if both < 500 || one < 500 {
		t.Errorf("%d times both, %d times one of them", both, one)
	}
}

// Behind long rows, which come to the same sets again and again; over names in other orders, and over more of them.
func TestWitnessBehindLong(t *testing.T) {
	d := draw(11)
	lists := [][]string{ab(), {"b", "a"}, {"c", "b", "a"}, names8()}
	for i, f := range some(100, 4) {
		names := lists[i%len(lists)]
		can, fail := automaton(t, nnf.Normal, f, names), automaton(t, nnf.Dual, f, names)
		for _, length := range []int{3, 10, 60} {
			wantByHand(t, f, names, can, fail, d.letters(length, len(names)))
			u := slices.Repeat(d.letters(1, len(names)), length)
			wantByHand(t, f, names, can, fail, u)
			u[length-1] ^= 1
			wantByHand(t, f, names, can, fail, u)
		}
	}
}

// Rows that keep a formula undecided for long, letter by letter: the letters that do so are drawn.
func TestWitnessUndecided(t *testing.T) {
	d := draw(12)
	longest := 0
	for _, f := range some(60, 4) {
		can, fail := automaton(t, nnf.Normal, f, ab()), automaton(t, nnf.Dual, f, ab())
		m := monitor(t, f, ab())
		var u []uint16
		for range 60 {
			v := append(slices.Clone(u), uint16(d.below(4)))
			if m.Out[behind(m, 0, v...)] == api.Inconclusive {
				u = v
			}
		}
		wantByHand(t, f, ab(), can, fail, u)
		longest = max(longest, len(u))
	}
	if longest < 50 {
		t.Errorf("the longest row has %d letters", longest)
	}
}

// Without names there is one letter.
func TestWitnessWithoutNames(t *testing.T) {
	for text, want := range map[string][2]string{"true": {"(0)", ""}, "false": {"", "(0)"}, "G true": {"(0)", ""}, "X false": {"", "(0)"}, "true U false": {"", "(0)"}} {
		for length := range 4 {
			wantWitness(t, read(text), nil, make([]uint16, length), want[0], want[1])
		}
	}
}

// What is told is in normal form: the stem has no letter that the loop could tell.
func TestWitnessNormal(t *testing.T) {
	wantWitness(t, read("G F a"), ab(), []uint16{1, 1, 1}, "(1)", "1 1 1 (0)")
	wantWitness(t, read("G F a"), ab(), []uint16{0, 1, 0}, "0 1 0 (1)", "0 1 (0)")
	wantWitness(t, read("true"), ab(), []uint16{0, 0, 0}, "(0)", "")
	wantWitness(t, read("G (a <-> X !a)"), ab(), []uint16{1, 0}, "(1 0)", "1 (0)")
	for _, f := range some(70, 4) {
		for _, u := range rows(2, 2) {
			h, g, err := explain.Witness(f, ab(), u...)
			for _, w := range slices.Concat(h, g) {
				if n := words.Normal(w); err != api.OK || !slices.Equal(n.Stem, w.Stem) || !slices.Equal(n.Loop, w.Loop) {
					t.Errorf("%s behind %v: %v, %v", told(f), u, w, err)
				}
			}
		}
	}
}
