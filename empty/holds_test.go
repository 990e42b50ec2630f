package empty_test

import (
	"iter"
	"slices"
	"testing"

	"augur/api"
	"augur/bits"
	"augur/buchi"
	"augur/empty"
	"augur/eval"
	"augur/nnf"
	"augur/syntax"
	"augur/tableau"
	"augur/words"
)

// accepted wants an answer of the automaton with these states for its Init.
func accepted(t *testing.T, a api.Buchi, states []int, w api.Word) bool {
	t.Helper()
	a.Init = slices.Collect(bits.Of(a.States, states...).All())
	is, err := buchi.Accepts(a, w)
	if err != api.OK {
		t.Fatalf("%+v, %v: %v", a, w, err)
	}
	return is
}

// The least lasso is accepted; there is one just if one of these states is live; from those that are not no word is.
func TestAccepted(t *testing.T) {
	d := draw(4)
	var found, none, dead int
	for range 3000 {
		props := d.below(3)
		a := d.automaton(7, props)
		states := d.some(a.States, 2)
		w, is, err := empty.From(a, states...)
		live, err2 := empty.Live(a)
		if err != api.OK || err2 != api.OK || is != slices.ContainsFunc(states, live.Has) {
			t.Fatalf("%+v, %v: %v, %v", a, states, is, live)
		}
		if is {
			found++
			if !accepted(t, a, states, w) {
				t.Fatalf("%+v, %v: %v is not accepted", a, states, w)
			}
		} else {
			none++
		}
		var rest []int
		for q := range a.States {
			if !live.Has(q) {
				rest = append(rest, q)
			}
		}
		if len(rest) > 0 {
			dead++
		}
		for w := range words.All(props, 3) {
			if accepted(t, a, rest, w) {
				t.Fatalf("%+v: %v are not live and accept %v", a, rest, w)
			}
		}
		for q := range live.All() {
			if w, is, err := empty.From(a, q); !is || err != api.OK || !accepted(t, a, []int{q}, w) {
				t.Fatalf("%+v from %d: %v, %v, %v", a, q, w, is, err)
			}
		}
	}
	if found < 500 || none < 500 || dead < 500 {
		t.Errorf("%d lassos, %d times none, %d times states that are not live", found, none, dead)
	}
}

// rows goes through all rows of so many letters below a bound.
func rows(letters uint16, length int) iter.Seq[[]uint16] {
	return func(yield func([]uint16) bool) {
		row := make([]uint16, length)
		for {
			if !yield(row) {
				return
			}
			i := length - 1
			for ; i >= 0 && row[i] == letters-1; i-- {
				row[i] = 0
			}
			if i < 0 {
				return
			}
			row[i]++
		}
	}
}

// along are the states to which one comes by a row of letters.
func along(a api.Buchi, from []int, row []uint16) []int {
	for _, letter := range row {
		from = stepByHand(a, from, letter)
	}
	return from
}

// No word with fewer letters is accepted by a run that comes back to a final state with its loop.
func TestNoneShorter(t *testing.T) {
	d := draw(5)
	long := 0
	for range 4000 {
		props := d.below(2)
		a := d.automaton(6, props)
		states := d.some(a.States, 2)
		w, _, err := empty.From(a, states...)
		if err != api.OK {
			t.Fatal(err)
		}
		letters := uint16(1) << props
		places := words.Places(w)
		if places > 3 {
			long++
		}
		for sum := 1; sum < places; sum++ {
			for stem := range sum {
				for u := range rows(letters, stem) {
					for _, q := range along(a, states, u) {
						if !slices.Contains(a.Final, q) {
							continue
						}
						for v := range rows(letters, sum-stem) {
							if slices.Contains(along(a, []int{q}, v), q) {
								t.Fatalf("%+v, %v: %v, but %v (%v)", a, states, w, u, v)
							}
						}
					}
				}
			}
		}
	}
	if long < 50 {
		t.Errorf("%d long lassos", long)
	}
}

// automatonOf is the automaton of a text's formula over a and b.
func automatonOf(t *testing.T, text string) (api.Formula, api.Buchi) {
	t.Helper()
	f, failure := syntax.Parse(text, api.Limits{Text: api.MaxText, Nodes: api.MaxNodes, Depth: api.MaxDepth, Props: api.MaxProps})
	if failure != nil {
		t.Fatal(text, failure)
	}
	n, err := nnf.Normal(f)
	if err != api.OK {
		t.Fatal(text, err)
	}
	x, err := tableau.Of(n, names8()[:2], 10000)
	if err != api.OK {
		t.Fatal(text, err)
	}
	a, err := buchi.Degen(x.General())
	if err != api.OK {
		t.Fatal(text, err)
	}
	return f, a
}

// With chapters 6, 9 and 10: of a formula that nothing holds the automaton is empty; of another one the witness holds it.
func TestFormulas(t *testing.T) {
	for _, text := range []string{"true", "a", "X a", "a U b", "a R b", "G a", "F b", "G F a", "F G a", "G (a -> F b)", "G (a -> X b)", "G F a & G F b", "F G a | G F b", "!(a U X b)", "G (a <-> X !a)", "F (a & X F (b & X F a))", "(G F a) <-> G F b", "G F a & F G !b", "X X X X a & G (a -> !b)"} {
		f, a := automatonOf(t, text)
		w, found, err := empty.Witness(a)
		if none, err2 := empty.Empty(a); none || !found || err != api.OK || err2 != api.OK {
			t.Errorf("%s: %v, %v, %v", text, none, err, err2)
			continue
		}
		if holds, err := eval.Holds(f, names8()[:2], w); !holds || err != api.OK {
			t.Errorf("%s: %s fails it", text, words.Show(w))
		}
	}
	for _, text := range []string{"false", "a & !a", "G a & F !a", "G F a & F G !a", "X a & X !a", "(a U b) & G !b", "G (a -> X b) & G (b -> X !b) & G F (a & X a)", "G F (a & !a)"} {
		_, a := automatonOf(t, text)
		none, err := empty.Empty(a)
		if w, found, err2 := empty.Witness(a); !none || found || err != api.OK || err2 != api.OK {
			t.Errorf("%s: %v, %v", text, none, w)
		}
	}
}
