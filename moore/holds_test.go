package moore_test

import (
	"slices"
	"testing"

	"augur/api"
	"augur/buchi"
	"augur/dfa"
	"augur/empty"
	"augur/eval"
	"augur/nnf"
	"augur/syntax"
	"augur/tableau"
	"augur/words"

	"augur/moore"
)

func formulaOf(t *testing.T, text string) api.Formula {
	t.Helper()
	f, failure := syntax.Parse(text, api.Limits{Text: api.MaxText, Nodes: api.MaxNodes, Depth: api.MaxDepth, Props: api.MaxProps})
	if failure != nil {
		t.Fatal(text, failure)
	}
	return f
}

// prefixesOf is the DFA of a formula in negation normal form, over the first two names: with chapters 9, 10, 12 and 13.
func prefixesOf(t *testing.T, f api.Formula) api.DFA {
	t.Helper()
	wantOK := func(err api.Errno) {
		t.Helper()
		if err != api.OK {
			t.Fatal(f, err)
		}
	}
	x, err := tableau.Of(f, names8()[:2], 10000)
	wantOK(err)
	a, err := buchi.Degen(x.General())
	wantOK(err)
	live, err := empty.Live(a)
	wantOK(err)
	d, err := dfa.Build(a, live, 10000)
	wantOK(err)
	return d
}

// productOf is the Product of the automata of a text's formula and of its negation.
func productOf(t *testing.T, text string) api.Moore {
	t.Helper()
	f := formulaOf(t, text)
	normal, err := nnf.Normal(f)
	dual, err2 := nnf.Dual(f)
	if err != api.OK || err2 != api.OK {
		t.Fatal(text, err, err2)
	}
	m, err := moore.Product(prefixesOf(t, normal), prefixesOf(t, dual))
	if err != api.OK {
		t.Fatal(text, err)
	}
	return m
}

func texts() []string {
	return []string{"true", "false", "a", "a & !a", "X a", "X X (a & b)", "a U b", "a R b", "a W b", "G a", "F b", "!F b", "G F a", "F G a", "G (a -> F b)", "G (a -> X b)", "G F a & G F b", "!(a U X b)", "G (a <-> X !a)", "F (a & X F b)", "G F a & F G !a", "(a U b) & G !b", "b | (a & X (a U b))", "G (a -> X (!a U b))", "F a -> (!b U a)"}
}

// T4: what Product makes of the automata of a formula and of its negation is a Trap; so is its Least.
func TestTrapOfFormulas(t *testing.T) {
	for _, text := range texts() {
		m := productOf(t, text)
		wantTrap(t, m, true)
		least, err := moore.Least(m)
		if err != api.OK {
			t.Fatal(text, err)
		}
		wantTrap(t, least, true)
		wantSame(t, m, least, true)
		wantBreadth(t, m)
		wantBreadth(t, least)
	}
}

// T1: the verdict behind each row, held against chapter 6: of these formulas words with a short end hold them and fail them, if any do.
func TestVerdicts(t *testing.T) {
	ends := slices.Collect(words.All(2, 3))
	for _, text := range texts() {
		f, m := formulaOf(t, text), productOf(t, text)
		least, _ := moore.Least(m)
		for u := range rows(2, 3) {
			var some, none bool
			for _, end := range ends {
				holds, err := eval.Holds(f, names8()[:2], words.Join(u, end))
				if err != api.OK {
					t.Fatal(text, err)
				}
				some, none = some || holds, none || !holds
			}
			want := api.Inconclusive
			switch {
			case !none:
				want = api.True
			case !some:
				want = api.False
			}
			if got := m.Out[behind(m, 0, u)]; got != want {
				t.Errorf("%s behind %v: %d, want %d", text, u, got, want)
			}
			if got := least.Out[behind(least, 0, u)]; got != want {
				t.Errorf("Least of %s behind %v: %d, want %d", text, u, got, want)
			}
		}
	}
}

// T3: formulas that hold of the same words have one Least; those whose verdicts are others have another one.
func TestOneMonitor(t *testing.T) {
	classes := [][]string{
		{"true", "a | !a", "F true", "F a | G !a"},
		{"false", "G a & F !a", "a & X false", "G F a & F G !a", "(a U b) & G !b"},
		// (a W b holds of more words, but no row tells that: its verdicts are those of a U b.)
		{"a U b", "b | (a & X (a U b))", "!(!a R !b)", "b M (a | b)", "a W b", "(a U b) | G a", "b R (a | b)"},
		{"F a", "F F a", "true U a", "!G !a", "a | X F a"},
		{"G a", "G G a", "a & X G a", "a W false"},
		{"G (a -> X b)", "!F (a & X !b)", "G (X b | !a)"},
		{"X (a & b)", "X b & X a"},
	}
	var firsts []api.Moore
	for _, class := range classes {
		want, err := moore.Least(productOf(t, class[0]))
		if err != api.OK {
			t.Fatal(err)
		}
		for _, text := range class {
			m := productOf(t, text)
			wantLeast(t, m, want)
			for i, first := range firsts {
				if is, err := moore.Same(m, first); is || err != api.OK {
					t.Errorf("%s and %s are the same", text, classes[i][0])
				}
			}
		}
		firsts = append(firsts, want)
	}
}

// DOC.md, the examples 1 to 3.
func TestMonitors(t *testing.T) {
	wantLeast(t, productOf(t, "a U b"), machine(2, st(3, 1, 0, 2, 2), st(2, 1, 1, 1, 1), st(1, 2, 2, 2, 2)))
	wantLeast(t, productOf(t, "G F a"), machine(2, st(3, 0, 0, 0, 0)))
	wantLeast(t, productOf(t, "G (a -> X b)"), machine(2, st(3, 0, 1, 0, 1), st(3, 2, 2, 0, 1), st(2, 2, 2, 2, 2)))
	wantLeast(t, productOf(t, "a | !a"), machine(2, st(1, 0, 0, 0, 0)))
	wantLeast(t, productOf(t, "a & !a"), machine(2, st(2, 0, 0, 0, 0)))
}
