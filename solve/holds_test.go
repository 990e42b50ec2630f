package solve_test

import (
	"slices"
	"testing"

	"augur/api"
	"augur/eval"
	"augur/explain"
	"augur/nnf"
	"augur/solve"
	"augur/synth"
	"augur/words"
)

// holds tells what layer 6 says of a word.
func holds(t *testing.T, f api.Formula, names []string, w api.Word) bool {
	t.Helper()
	is, err := eval.Holds(f, names, w)
	if err != api.OK {
		t.Fatalf("%s, %q, %s: %v", told(f), names, words.Show(w), err)
	}
	return is
}

// goal tells what a word shows that such a call tells: of all formulas one that it holds, say.
func goal(name string) func(holds []bool) bool {
	switch name {
	case "Sat":
		return func(holds []bool) bool { return holds[0] }
	case "Valid":
		return func(holds []bool) bool { return !holds[0] }
	case "Implies":
		return func(holds []bool) bool { return holds[0] && !holds[1] }
	}
	return func(holds []bool) bool { return holds[0] != holds[1] }
}

// wantShown wants T7 of a call: its word shows what it is to show; if it tells none, no word up to that size does. It tells whether there was one.
func wantShown(t *testing.T, c call, size int, names []string, l ...api.Formula) bool {
	t.Helper()
	w, is, err := c.ask(names, l...)
	if err != api.OK {
		t.Fatalf("%s(%s): %v", c.name, toldAll(l), err)
	}
	shows := func(w api.Word) bool {
		var row []bool
		for _, f := range l {
			row = append(row, holds(t, f, names, w))
		}
		return goal(c.name)(row)
	}
	found := is == (c.name == "Sat")
	if found {
		if words.Check(w, len(names)) != api.OK || !shows(w) {
			t.Fatalf("%s(%s): %v, %v", c.name, toldAll(l), w, is)
		}
		return true
	}
	if len(w.Stem) != 0 || len(w.Loop) != 0 {
		t.Fatalf("%s(%s): %v, %v", c.name, toldAll(l), w, is)
	}
	for w := range words.All(len(names), size) {
		if shows(w) {
			t.Fatalf("%s(%s): no word, but %s", c.name, toldAll(l), words.Show(w))
		}
	}
	return false
}

// T7 of small formulas of one name, of people's and of drawn ones.
func TestShown(t *testing.T) {
	short, list := small(2), some(150, 4)
	for _, c := range calls() {
		said := map[bool]int{}
		if c.of == 1 {
			longer := small(3)
			for i := 0; i < len(longer); i += 17 { // all of them would take too long
				said[wantShown(t, c, 4, []string{"a"}, longer[i])]++
			}
		} else {
			for i, f := range short {
				for k := i % 2; k < len(short); k += 2 {
					said[wantShown(t, c, 4, []string{"a"}, f, short[k])]++
				}
			}
		}
		for i, f := range list {
			said[wantShown(t, c, 3, ab(), []api.Formula{f, list[(i*7+3)%len(list)]}[:c.of]...)]++
		}
		if said[true] < 100 || said[false] < 100 {
			t.Errorf("%s: %v", c.name, said)
		}
	}
}

// T7 over more names, and in other orders.
func TestShownOverMore(t *testing.T) {
	d := draw(41)
	for i := range 100 {
		names := [][]string{{"b", "a"}, {"c", "a", "b"}, {"x", "c", "b", "a"}}[i%3]
		l := []api.Formula{d.formula(4, "a", "b"), d.formula(4, "a", "b")}
		for _, c := range calls() {
			wantShown(t, c, 2, names, l[:c.of]...)
		}
	}
}

// follows tells whether b follows from a; same: whether they are the same.
func follows(t *testing.T, a, b api.Formula) bool {
	t.Helper()
	_, is, err := solve.Implies(a, b, ab())
	if err != api.OK {
		t.Fatalf("%s, %s: %v", told(a), told(b), err)
	}
	return is
}

func same(t *testing.T, a, b api.Formula) bool {
	t.Helper()
	_, is, err := solve.Same(a, b, ab())
	if err != api.OK {
		t.Fatalf("%s, %s: %v", told(a), told(b), err)
	}
	return is
}

// Implies is an order of formulas; Same is: each from the other, and so the same both ways, and handed on.
func TestOrderOfFormulas(t *testing.T) {
	list := slices.Concat(readAll("true", "false", "a", "a & b", "a | b", "G a", "F a", "G F a", "F G a", "a U b", "a W b", "F b", "F (a | b)", "G (a & b)", "!(F !a)", "a & X G a", "b | (a & X (a U b))", "X a", "(X a) | a"), some(52, 3)[40:])
	n := len(list)
	from := make([][]bool, n)
	var follow, alike int
	for i, a := range list {
		from[i] = make([]bool, n)
		for k, b := range list {
			from[i][k] = follows(t, a, b)
			follow += count(from[i][k])
		}
	}
	for i := range n {
		for k := range n {
			both := from[i][k] && from[k][i]
			alike += count(both)
			if same(t, list[i], list[k]) != both || i == k && !both {
				t.Errorf("%s, %s: %v, %v, both %v", told(list[i]), told(list[k]), from[i][k], from[k][i], both)
			}
			for j := range n {
				if from[i][k] && from[k][j] && !from[i][j] {
					t.Errorf("%s, %s, %s: the last one follows not from the first", told(list[i]), told(list[k]), told(list[j]))
				}
			}
		}
		if !from[1][i] || !from[i][0] {
			t.Errorf("%s is not between false and true", told(list[i]))
		}
	}
	if follow < 200 || alike < n+8 {
		t.Errorf("%d follow, %d are the same", follow, alike)
	}
}

func count(is bool) int {
	if is {
		return 1
	}
	return 0
}

// How the calls hang together: what is valid is what follows from true, and so on; what other layers make of a formula is the same.
func TestCallsHangTogether(t *testing.T) {
	yes, no := op(api.OpTrue), op(api.OpFalse)
	list := some(160, 4)
	for i, f := range list {
		_, can, err := solve.Sat(f, ab())
		_, always, err2 := solve.Valid(f, ab())
		if err != api.OK || err2 != api.OK {
			t.Fatalf("%s: %v, %v", told(f), err, err2)
		}
		_, fails, _ := solve.Sat(not(f), ab())
		_, never, _ := solve.Valid(not(f), ab())
		if fails == always || never == can || always && !can {
			t.Errorf("%s: %v, %v; its negation: %v, %v", told(f), can, always, fails, never)
		}
		if follows(t, yes, f) != always || follows(t, f, no) == can || same(t, f, yes) != always || same(t, f, no) == can {
			t.Errorf("%s: %v, %v; by true and false otherwise", told(f), can, always)
		}
		for _, form := range []func(api.Formula) (api.Formula, api.Errno){nnf.Normal, nnf.Simple} {
			if g, err := form(f); err != api.OK || !same(t, f, g) || !follows(t, f, g) || !follows(t, g, f) {
				t.Errorf("%s is not the same as %s, %v", told(f), told(g), err)
			}
		}
		if g, err := nnf.Dual(f); err != api.OK || same(t, f, g) || !same(t, not(f), g) {
			t.Errorf("%s is the same as %s, %v", told(f), told(g), err)
		}
		g := list[(i*11+5)%len(list)]
		_, both, err := solve.Sat(op(api.OpAnd, f, g), ab())
		if row, is, err2 := solve.Core(ab(), f, g); err != api.OK || err2 != api.OK || is == both || is && (slices.Equal(row, []int{0}) == can) {
			t.Errorf("%s, %s: %v, %v; %v, %v", told(f), told(g), both, err, row, err2)
		}
		_, holds, err := solve.Valid(op(api.OpImp, f, g), ab())
		if err == api.OK && holds != follows(t, f, g) {
			t.Errorf("%s, %s: %v", told(f), told(g), holds)
		}
	}
}

// What the layers above monitors say of a formula.
func TestAsOtherLayersSay(t *testing.T) {
	var met, valid, empty int
	for _, f := range append(some(160, 4), readAll("(G a) -> a", "a & X !a & G a", "(F G a) & G F !a", "(a W b) | F !a", "F a | G !a")...) {
		_, can, _ := solve.Sat(f, ab())
		_, always, _ := solve.Valid(f, ab())
		m, failure := synth.Of(f, ab(), synth.Default())
		if failure != nil {
			continue // it has more than synth's limits allow
		}
		c, err := explain.Classify(f, ab())
		if err != api.OK || c.Valid != always || c.Empty == can {
			t.Errorf("%s: %+v, %v; %v, %v", told(f), c, err, can, always)
		}
		if (m.Out[0] == api.True) != always || (m.Out[0] == api.False) == can {
			t.Errorf("%s: %+v; %v, %v", told(f), m, can, always)
		}
		met++
		valid += count(always)
		empty += count(!can)
	}
	if met < 150 || valid < 10 || empty < 10 {
		t.Errorf("of %d are %d valid, %d empty", met, valid, empty)
	}
}

// In a core no formula can be left out: the others can hold together, and no word of some size holds them all.
func TestNothingLeftOut(t *testing.T) {
	parts := append(readAll("a", "!a", "b", "!b", "G a", "F !a", "a -> b", "X !a", "G F a", "F G !a", "a U b", "G !b", "a <-> b", "G (a -> X !a)", "a | b"), some(60, 2)...)
	d := draw(43)
	found := 0
	for range 150 {
		var l []api.Formula
		for range 2 + d.below(5) {
			l = append(l, parts[d.below(20)])
		}
		row, is, err := solve.Core(ab(), l...)
		if err != api.OK {
			t.Fatal(err)
		}
		if !is {
			if _, can, err := solve.Sat(all(l), ab()); err != api.OK || !can {
				t.Errorf("%s: no core, but no word: %v", toldAll(l), err)
			}
			continue
		}
		found++
		core := at(l, row)
		wantShown(t, calls()[0], 3, ab(), all(core))
		if _, can, _ := solve.Sat(all(core), ab()); can {
			t.Errorf("%s: the core %v can hold", toldAll(l), row)
		}
		for i := range core {
			others := slices.Delete(slices.Clone(core), i, i+1)
			if w, can, err := solve.Sat(all(others), ab()); err != api.OK || !can || slices.ContainsFunc(others, func(f api.Formula) bool { return !holds(t, f, ab(), w) }) {
				t.Errorf("%s: of the core %v the place %d can be left out", toldAll(l), row, row[i])
			}
		}
	}
	if found < 40 {
		t.Errorf("%d cores", found)
	}
}
