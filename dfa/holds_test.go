package dfa_test

import (
	"iter"
	"slices"
	"testing"

	"augur/api"
	"augur/bits"
	"augur/buchi"
	"augur/dfa"
	"augur/empty"
	"augur/eval"
	"augur/nnf"
	"augur/syntax"
	"augur/tableau"
	"augur/words"
)

// rows goes through all rows of at most so many letters over so many names.
func rows(props, length int) iter.Seq[[]uint16] {
	return func(yield func([]uint16) bool) {
		var grow func(row []uint16) bool
		grow = func(row []uint16) bool {
			if !yield(row) {
				return false
			}
			for letter := range uint16(1) << props {
				if len(row) < length && !grow(append(slices.Clone(row), letter)) {
					return false
				}
			}
			return true
		}
		grow(nil)
	}
}

func accepts(t *testing.T, a api.Buchi, w api.Word) bool {
	t.Helper()
	is, err := buchi.Accepts(a, w)
	if err != api.OK {
		t.Fatalf("%+v, %v: %v", a, w, err)
	}
	return is
}

func has(t *testing.T, d api.DFA, u []uint16) bool {
	t.Helper()
	is, err := dfa.Has(d, u...)
	if err != api.OK {
		t.Fatalf("%+v, %v: %v", d, u, err)
	}
	return is
}

// liveOf is chapter 12's live.
func liveOf(t *testing.T, a api.Buchi) *bits.Set {
	t.Helper()
	live, err := empty.Live(a)
	if err != api.OK {
		t.Fatal(err)
	}
	return live
}

// prefixes is the DFA with chapter 12's live.
func prefixes(t *testing.T, a api.Buchi) api.DFA {
	t.Helper()
	d, err := dfa.Build(a, liveOf(t, a), 100000)
	if err != api.OK {
		t.Fatalf("%+v: %v", a, err)
	}
	return d
}

// goesOn is a word that begins with u and that a accepts, if there is one: from the states to which one can come by u.
func goesOn(t *testing.T, a api.Buchi, u []uint16) (api.Word, bool) {
	t.Helper()
	states := a.Init
	for _, letter := range u {
		states = stepByHand(a, full(a.States), states, letter)
	}
	w, found, err := empty.From(a, states...)
	if err != api.OK {
		t.Fatal(err)
	}
	return words.Join(u, w), found
}

// PREFIXES: Has of u is so just if a accepts some word that begins with u.
func TestPrefixes(t *testing.T) {
	d := draw(8)
	var so, not int
	for range 400 {
		props := d.below(3)
		a := d.automaton(7, props)
		x := prefixes(t, a)
		for u := range rows(props, 5-props) {
			w, found := goesOn(t, a, u)
			if is := has(t, x, u); is != found {
				t.Fatalf("%+v: Has(%v) is %v, %v is accepted", a, u, is, w)
			}
			if found {
				so++
				if !slices.Equal(words.Prefix(w, len(u)), u) || !accepts(t, a, w) {
					t.Fatalf("%+v: %v is not accepted", a, w)
				}
				continue
			}
			not++
			for v := range words.All(props, 2) {
				if accepts(t, a, words.Join(u, v)) {
					t.Fatalf("%+v: %v is no prefix, but %v goes on from it", a, u, v)
				}
			}
		}
	}
	if so < 1000 || not < 1000 {
		t.Errorf("%d prefixes, %d others", so, not)
	}
}

// What is a prefix has only prefixes, and goes on by some letter to another one; what is none has none that goes on from it.
func TestPrefixesOfPrefixes(t *testing.T) {
	d := draw(9)
	for range 300 {
		props := d.below(3)
		a := d.automaton(8, props)
		x := prefixes(t, a)
		for u := range rows(props, 5-props) {
			is, on := has(t, x, u), false
			for letter := range uint16(1) << props {
				on = on || has(t, x, append(slices.Clone(u), letter))
			}
			if is != on {
				t.Fatalf("%+v: %v is a prefix: %v; goes on: %v", a, u, is, on)
			}
			for n := range u {
				if is && !has(t, x, u[:n]) {
					t.Fatalf("%+v: %v is a prefix, %v is not", a, u, u[:n])
				}
			}
		}
		// So of all states: one that is not live stays so, one that is goes on.
		for state, row := range x.Next {
			on := slices.ContainsFunc(row, func(to int) bool { return x.Live[to] })
			if on != x.Live[state] {
				t.Fatalf("%+v: %+v, the state %d", a, x, state)
			}
		}
	}
}

// A limit is refused only if there are more subsets; with a greater one the DFA is the same.
func TestLimits(t *testing.T) {
	d := draw(10)
	for range 300 {
		a := d.automaton(7, d.below(4))
		x := prefixes(t, a)
		n := len(x.Next)
		for most := -2; most < n+5; most++ {
			got, err := dfa.Build(a, liveOf(t, a), most)
			if most < n && (err != api.ErrLimitStates || !isZero(got)) || most >= n && (err != api.OK || !same(got, x)) {
				t.Fatalf("%+v has %d subsets, at most %d: %+v, %v", a, n, most, got, err)
			}
		}
	}
}

// automatonOf is the automaton of a text's formula over the first two names.
func automatonOf(t *testing.T, text string) (api.Formula, api.Buchi) {
	t.Helper()
	f, failure := syntax.Parse(text, api.Limits{Text: api.MaxText, Nodes: api.MaxNodes, Depth: api.MaxDepth, Props: api.MaxProps})
	if failure != nil {
		t.Fatal(text, failure)
	}
	n, err := nnf.Normal(f)
	if err != api.OK {
		t.Fatal(text, err)
	}
	x, err := tableau.Of(n, names8()[:2], 10000)
	if err != api.OK {
		t.Fatal(text, err)
	}
	a, err := buchi.Degen(x.General())
	if err != api.OK {
		t.Fatal(text, err)
	}
	return f, a
}

// With chapters 6, 9, 10 and 12: a row is a prefix of a formula's DFA just if some word that begins with it holds the formula. (Of these formulas one with a short end does, if any.)
func TestFormulas(t *testing.T) {
	ends := slices.Collect(words.All(2, 3))
	for _, text := range []string{"true", "false", "a", "a & !a", "X a", "X X (a & b)", "a U b", "a R b", "G a", "F b", "!F b", "G F a", "F G a", "G (a -> F b)", "G (a -> X b)", "G F a & G F b", "!(a U X b)", "G (a <-> X !a)", "F (a & X F b)", "G F a & F G !a", "(a U b) & G !b", "b | (a & X (a U b))"} {
		f, a := automatonOf(t, text)
		x := prefixes(t, a)
		for u := range rows(2, 3) {
			some := slices.ContainsFunc(ends, func(end api.Word) bool {
				holds, err := eval.Holds(f, names8()[:2], words.Join(u, end))
				if err != api.OK {
					t.Fatal(text, err)
				}
				return holds
			})
			if is := has(t, x, u); is != some {
				t.Errorf("%s: Has(%v): %v", text, u, is)
			}
		}
	}
}
