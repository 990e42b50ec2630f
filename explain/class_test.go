package explain_test

import (
	"cmp"
	"slices"
	"testing"

	"augur/api"
	"augur/buchi"
	"augur/empty"
	"augur/eval"
	"augur/nnf"
	"augur/synth"
	"augur/words"
)

// never accepts the words along which a machine never says v: an edge for each letter, all states final, but those that say v are left out.
func never(m api.Moore, v api.Verdict) api.Buchi {
	a := api.Buchi{Props: m.Props, States: len(m.Next)}
	all := uint16(1<<len(m.Props) - 1)
	for s, row := range m.Next {
		if m.Out[s] == v {
			continue
		}
		a.Final = append(a.Final, s)
		for letter, to := range row {
			if m.Out[to] != v {
				a.Edges = append(a.Edges, api.Edge{From: s, To: to, Must: uint16(letter), Not: all &^ uint16(letter)})
			}
		}
	}
	if m.Out[0] != v {
		a.Init = []int{0}
	}
	slices.SortFunc(a.Edges, func(d, e api.Edge) int {
		return cmp.Or(cmp.Compare(d.From, e.From), cmp.Compare(d.To, e.To), cmp.Compare(d.Must, e.Must), cmp.Compare(d.Not, e.Not))
	})
	return a
}

// unlike is a word that a accepts and along which the machine never says v, if there is one.
func unlike(t *testing.T, a api.Buchi, m api.Moore, v api.Verdict) (api.Word, bool) {
	t.Helper()
	both, err := buchi.Both(a, never(m, v))
	if err != api.OK {
		t.Fatal(err)
	}
	w, found, err := empty.Witness(both)
	if err != api.OK {
		t.Fatal(err)
	}
	return w, found
}

// says tells whether a machine says v behind some prefix of a word.
func says(m api.Moore, w api.Word, v api.Verdict) bool {
	s := 0
	for _, letter := range words.Prefix(w, len(w.Stem)+len(w.Loop)*len(m.Next)+1) {
		if m.Out[s] == v {
			return true
		}
		s = m.Next[s][letter]
	}
	return m.Out[s] == v
}

// classByHand is the chapter's table. Where a class says no, a word shows it.
func classByHand(t *testing.T, f api.Formula, names []string) api.Class {
	t.Helper()
	m := monitor(t, f, names)
	can, fail := automaton(t, nnf.Normal, f, names), automaton(t, nnf.Dual, f, names)
	none, _ := empty.Empty(can)
	all, _ := empty.Empty(fail)
	c := api.Class{Valid: all, Empty: none, Monitorable: true}
	w, found := unlike(t, fail, m, api.False)
	wantShown(t, f, names, m, w, found, false)
	c.Safe = !found
	w, found = unlike(t, can, m, api.True)
	wantShown(t, f, names, m, w, found, true)
	c.CoSafe = !found
	for state, is := range reached(m, 0) {
		if !is {
			continue
		}
		var sure bool
		for s, from := range reached(m, state) {
			sure = sure || from && m.Out[s] != api.Inconclusive
		}
		c.Monitorable = c.Monitorable && sure
	}
	return c
}

// wantShown wants of a word that was found that it holds f, or fails it, as is said, and that the monitor says so nowhere.
func wantShown(t *testing.T, f api.Formula, names []string, m api.Moore, w api.Word, found, holds bool) {
	t.Helper()
	if !found {
		return
	}
	is, err := eval.Holds(f, names, w)
	v := api.False
	if holds {
		v = api.True
	}
	if err != api.OK || is != holds || says(m, w, v) {
		t.Fatalf("%s over %q, %s: %v, %v; the monitor says %d: %v", told(f), names, words.Show(w), is, err, v, says(m, w, v))
	}
}

// Of people's formulas and of drawn ones.
func TestClassByHand(t *testing.T) {
	classes := map[api.Class]int{}
	for _, f := range some(700, 4) {
		want := classByHand(t, f, ab())
		wantClass(t, f, ab(), want)
		classes[want]++
	}
	for _, c := range allClasses() {
		if classes[c] < 3 {
			t.Errorf("%d times %+v", classes[c], c)
		}
	}
	if len(classes) != len(allClasses()) {
		t.Errorf("%+v", classes)
	}
}

// allClasses are those that there are.
func allClasses() []api.Class {
	return []api.Class{
		{Valid: true, Safe: true, CoSafe: true, Monitorable: true},
		{Empty: true, Safe: true, CoSafe: true, Monitorable: true},
		{Safe: true, CoSafe: true, Monitorable: true},
		{Safe: true, Monitorable: true},
		{CoSafe: true, Monitorable: true},
		{Monitorable: true},
		{},
	}
}

// Over three names, and over more names than the formula has, in another order.
func TestClassOverMore(t *testing.T) {
	d := draw(31)
	three := []string{"a", "b", "c"}
	for range 150 {
		f := d.formula(4, three...)
		if _, err := synth.Of(f, three, synth.Default()); err != nil {
			continue
		}
		want := classByHand(t, f, three)
		wantClass(t, f, three, want)
		wantClass(t, f, []string{"c", "x", "a", "b"}, want)
	}
	for _, f := range some(60, 3) {
		want := classByHand(t, f, ab())
		wantClass(t, f, names8(), want)
		wantClass(t, f, []string{"b", "a"}, want)
	}
}

// Each short word against what Safe and CoSafe say of it.
func TestClassAndWords(t *testing.T) {
	short := slices.Collect(words.All(2, 3))
	for _, f := range some(150, 4) {
		m, c := monitor(t, f, ab()), classOf(t, f, ab())
		for _, w := range short {
			holds, err := eval.Holds(f, ab(), w)
			if err != api.OK {
				t.Fatal(err)
			}
			if c.Valid && !holds || c.Empty && holds || c.Safe && !holds && !says(m, w, api.False) || c.CoSafe && holds && !says(m, w, api.True) {
				t.Errorf("%s, %s: %+v, holds: %v", told(f), words.Show(w), c, holds)
			}
		}
	}
}

// Formulas whose classes people know.
func TestKnownClasses(t *testing.T) {
	safe, coSafe := api.Class{Safe: true, Monitorable: true}, api.Class{CoSafe: true, Monitorable: true}
	both, only := api.Class{Safe: true, CoSafe: true, Monitorable: true}, api.Class{Monitorable: true}
	for _, c := range []struct {
		want  api.Class
		texts []string
	}{
		{api.Class{Valid: true, Safe: true, CoSafe: true, Monitorable: true}, []string{"true", "a | !a", "G a -> F a", "F a | G !a", "G F a | F G !a", "(a U b) -> F b", "!(a U b) <-> (!a R !b)", "G (a -> a)", "X a <-> !X !a"}},
		{api.Class{Empty: true, Safe: true, CoSafe: true, Monitorable: true}, []string{"false", "a & !a", "G a & F !a", "G F a & F G !a", "(a U b) & G !b", "F (a & X a & X !a)"}},
		{safe, []string{"G a", "a W b", "a R b", "G (a -> X b)", "G (a -> X (!a W b))", "!F a", "!(a U b)", "G (a | X X b)", "G a & G b", "G a | G b", "a & X G b", "(a U b) | G a", "G !(a & X a)"}},
		{coSafe, []string{"F a", "a U b", "a M b", "F (a & X b)", "!G a", "!(a W b)", "F a & F b", "F a | F b", "F (a & F b)", "X F a", "(a R b) & F (a & b)", "(a R b) & F a", "(a W b) & F !a"}},
		{both, []string{"a", "!a", "X a", "a & X X b", "a <-> X b", "X (a | X b)", "a & X true", "(a | X a) & F true"}},
		{only, []string{"(G a) | F b", "a & F b | G a", "G F a & G b", "G F a | F b", "(a U b) & G (a | b)", "G (a -> b) & F a"}},
		{api.Class{}, []string{"G F a", "F G a", "G (a -> F b)", "X G F a", "G F a & G F b", "G F a -> G F b", "a & G F b", "a U G F b", "G F a <-> b", "F G a | X b", "a W (b & G F a)", "G F a -> G b"}},
	} {
		for _, text := range c.texts {
			wantClass(t, read(text), ab(), c.want)
			wantClass(t, not(read(text)), ab(), turned(c.want))
		}
	}
}

// turned is the class of the negation.
func turned(c api.Class) api.Class {
	return api.Class{Valid: c.Empty, Empty: c.Valid, Safe: c.CoSafe, CoSafe: c.Safe, Monitorable: c.Monitorable}
}
