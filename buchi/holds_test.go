package buchi_test

import (
	"slices"
	"testing"

	"augur/api"
	"augur/bits"
	"augur/buchi"
	"augur/eval"
	"augur/nnf"
	"augur/syntax"
	"augur/tableau"
	"augur/words"
)

// accepted wants an answer.
func accepted(t *testing.T, a api.Buchi, w api.Word) bool {
	t.Helper()
	is, err := buchi.Accepts(a, w)
	if err != api.OK {
		t.Fatalf("%+v, %s: %v", a, words.Show(w), err)
	}
	return is
}

func acceptedByAll(t *testing.T, g api.General, w api.Word) bool {
	t.Helper()
	is, err := buchi.AcceptsGeneral(g, w)
	if err != api.OK {
		t.Fatalf("%+v, %s: %v", g, words.Show(w), err)
	}
	return is
}

// someWords are all small ones over so many names, and some longer ones.
func someWords(d *draw, props int) []api.Word {
	list := slices.Collect(words.All(props, 2))
	for range 8 {
		list = append(list, d.word(props, 4, 5))
	}
	return list
}

// tally counts answers, so that none of both is lacking.
type tally struct{ yes, no int }

func (c *tally) add(is bool) {
	if is {
		c.yes++
	} else {
		c.no++
	}
}

func (c *tally) enough(t *testing.T, n int) {
	t.Helper()
	if c.yes < n || c.no < n {
		t.Errorf("%d accepted, %d not", c.yes, c.no)
	}
}

// SAME LANGUAGE: Degen accepts what the General accepts, Trim what the automaton, Both what both accept.
func TestSameLanguage(t *testing.T) {
	d := draw(11)
	var degen, trim, both tally
	for range 1500 {
		props := d.below(3)
		g := d.general(5, props, 3)
		a, b := d.automaton(5, props), d.automaton(5, props)
		one, err := buchi.Degen(g)
		two, err2 := buchi.Trim(a)
		three, err3 := buchi.Both(a, b)
		if err != api.OK || err2 != api.OK || err3 != api.OK {
			t.Fatal(err, err2, err3)
		}
		for _, w := range someWords(&d, props) {
			all, left, right := acceptedByAll(t, g, w), accepted(t, a, w), accepted(t, b, w)
			if accepted(t, one, w) != all {
				t.Fatalf("Degen of %+v, %s: %v", g, words.Show(w), all)
			}
			if accepted(t, two, w) != left {
				t.Fatalf("Trim of %+v, %s: %v", a, words.Show(w), left)
			}
			if accepted(t, three, w) != (left && right) {
				t.Fatalf("Both of %+v and %+v, %s: %v, %v", a, b, words.Show(w), left, right)
			}
			degen.add(all)
			trim.add(left)
			both.add(left && right)
		}
	}
	degen.enough(t, 1000)
	trim.enough(t, 1000)
	both.enough(t, 300)
}

// A word is accepted just if its normal form is, and however else it is written.
func TestNormalForm(t *testing.T) {
	d := draw(12)
	var c tally
	for range 2000 {
		props := d.below(3)
		g := d.general(5, props, 3)
		w := d.word(props, 3, 3)
		want := acceptedByAll(t, g, w)
		turned := api.Word{Stem: append(slices.Clone(w.Stem), w.Loop[0]), Loop: append(slices.Clone(w.Loop[1:]), w.Loop[0])}
		twice := api.Word{Stem: w.Stem, Loop: slices.Repeat(w.Loop, 2)}
		long := api.Word{Stem: slices.Concat(w.Stem, w.Loop, w.Loop), Loop: slices.Repeat(w.Loop, 3)}
		for _, other := range []api.Word{words.Normal(w), turned, twice, long} {
			if acceptedByAll(t, g, other) != want {
				t.Fatalf("%+v: %s: %v, but not %s", g, words.Show(w), want, words.Show(other))
			}
		}
		c.add(want)
	}
	c.enough(t, 300)
}

// A word is accepted just if, from Step of Init by its first letter on, the rest is.
func TestFirstLetterAndRest(t *testing.T) {
	d := draw(13)
	var c tally
	for range 2000 {
		props := d.below(3)
		a := d.automaton(6, props)
		w := d.word(props, 4, 4)
		want := accepted(t, a, w)
		rest := a
		for n := range 6 {
			to := buchi.Step(rest, bits.Of(a.States, rest.Init...), words.At(w, n))
			if to == nil {
				t.Fatalf("%+v: no step", rest)
			}
			rest.Init = slices.Collect(to.All())
			if accepted(t, rest, words.Suffix(w, n+1)) != want {
				t.Fatalf("%+v, %s: %v, but not behind %d letters", a, words.Show(w), want, n+1)
			}
		}
		c.add(want)
	}
	c.enough(t, 300)
}

// An edge goes with the letters that Letters goes through.
func TestLettersAndEdges(t *testing.T) {
	d := draw(14)
	for range 1000 {
		props := d.below(5)
		must, not := d.label(props)
		a := api.Buchi{Props: names8()[:props], States: 1, Init: []int{0}, Edges: []api.Edge{{Must: must, Not: not}}, Final: []int{0}}
		letters := slices.Collect(buchi.Letters(must, not, props))
		for letter := range uint16(1) << props {
			goes := slices.Contains(letters, letter)
			if accepted(t, a, loop(letter)) != goes || buchi.Step(a, bits.Of(1, 0), letter).Has(0) != goes {
				t.Fatalf("%d, %d by %d: %v", must, not, letter, goes)
			}
		}
	}
}

// renamed are the states of a by other numbers: the new one of each.
func renamed(a api.Buchi, to []int) api.Buchi {
	states := func(list []int) []int {
		var other []int
		for _, q := range list {
			other = append(other, to[q])
		}
		slices.Sort(other)
		return other
	}
	b := api.Buchi{Props: a.Props, States: a.States, Init: states(a.Init), Final: states(a.Final)}
	for _, e := range a.Edges {
		b.Edges = append(b.Edges, edge(to[e.From], to[e.To], e.Must, e.Not))
	}
	slices.SortFunc(b.Edges, rising)
	return b
}

// The numbers hang on the automaton alone: made again it is the same. Trim of Trim is it; Trim only gives other numbers; a General with one set, all of whose states are reached, has as many.
func TestNumbersHangOnTheAutomaton(t *testing.T) {
	d := draw(15)
	for range 1000 {
		a := d.automaton(6, d.below(3))
		x, err := buchi.Trim(a)
		y, err2 := buchi.Trim(a)
		z, err3 := buchi.Trim(x)
		if err != api.OK || err2 != api.OK || err3 != api.OK || !same(x, y) || !same(x, z) {
			t.Fatalf("%+v: %+v, %+v, %+v", a, x, y, z)
		}
		one, err := buchi.Degen(oneSet(x))
		if err != api.OK || one.States != x.States || !same(one, x) {
			t.Fatalf("%+v: %+v, %v", x, one, err)
		}
		if x.States < a.States {
			continue
		}
		// Of one all of whose states are reached, Trim is it by other numbers: some order gives it.
		found := false
		for order := range orders(a.States) {
			if same(renamed(a, order), x) {
				found = true
				break
			}
		}
		if !found {
			t.Fatalf("%+v: %+v", a, x)
		}
	}
}

// orders goes through all orders of the numbers below n.
func orders(n int) func(func([]int) bool) {
	return func(yield func([]int) bool) {
		var put func(list []int) bool
		put = func(list []int) bool {
			if len(list) == n {
				return yield(list)
			}
			for i := range n {
				if !slices.Contains(list, i) && !put(append(slices.Clone(list), i)) {
					return false
				}
			}
			return true
		}
		put(nil)
	}
}

// generalOf is the automaton of a text's formula.
func generalOf(t *testing.T, text string) (api.Formula, api.General) {
	t.Helper()
	f, failure := syntax.Parse(text, api.Limits{Text: api.MaxText, Nodes: api.MaxNodes, Depth: api.MaxDepth, Props: api.MaxProps})
	if failure != nil {
		t.Fatal(text, failure)
	}
	n, err := nnf.Normal(f)
	if err != api.OK {
		t.Fatal(text, err)
	}
	x, err := tableau.Of(n, ab(), 10000)
	if err != api.OK {
		t.Fatal(text, err)
	}
	return f, x.General()
}

// With chapters 6 and 9: the automaton of a formula, with sets and with final states, accepts just the words of which it holds; Both of two formulas' just those of which both hold.
func TestFormulas(t *testing.T) {
	texts := []string{"true", "false", "a", "X a", "a U b", "a R b", "G a", "F b", "G F a", "F G a", "G (a -> F b)", "G (a -> X b)", "G F a & G F b", "F G a | G F b", "(a U b) U a", "a W b", "a M b", "!(a U X b)", "G (a <-> X !a)", "F (a & X F (b & X F a))", "(G F a) <-> G F b", "a & !a"}
	d := draw(16)
	all := someWords(&d, 2)
	all = append(all, slices.Collect(words.All(2, 3))...)
	var c tally
	var formulas []api.Formula
	var automata []api.Buchi
	for _, text := range texts {
		f, g := generalOf(t, text)
		if err := buchi.CheckGeneral(g); err != api.OK {
			t.Fatal(text, err)
		}
		a, err := buchi.Degen(g)
		if err != api.OK || buchi.Check(a) != api.OK {
			t.Fatal(text, err)
		}
		for _, w := range all {
			holds, err := eval.Holds(f, ab(), w)
			if err != api.OK {
				t.Fatal(text, err)
			}
			if acceptedByAll(t, g, w) != holds || accepted(t, a, w) != holds {
				t.Fatalf("%s, %s: %v", text, words.Show(w), holds)
			}
			c.add(holds)
		}
		formulas, automata = append(formulas, f), append(automata, a)
	}
	c.enough(t, 300)
	for i, f := range formulas {
		for j, g := range formulas {
			if (i+j)%3 != 0 {
				continue
			}
			a, err := buchi.Both(automata[i], automata[j])
			if err != api.OK || buchi.Check(a) != api.OK {
				t.Fatal(texts[i], texts[j], err)
			}
			for n, w := range all {
				if n%5 != (i+j)%5 {
					continue
				}
				one, _ := eval.Holds(f, ab(), w)
				two, _ := eval.Holds(g, ab(), w)
				if accepted(t, a, w) != (one && two) {
					t.Fatalf("%s and %s, %s: %v, %v", texts[i], texts[j], words.Show(w), one, two)
				}
			}
		}
	}
}
