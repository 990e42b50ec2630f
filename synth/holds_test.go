package synth_test

import (
	"iter"
	"math"
	"slices"
	"testing"

	"augur/api"
	"augur/bits"
	"augur/buchi"
	"augur/empty"
	"augur/eval"
	"augur/moore"
	"augur/nnf"
	"augur/synth"
	"augur/tableau"
	"augur/tree"
	"augur/words"
)

// rows goes through all rows of at most so many letters.
func rows(props, longest int) iter.Seq[[]uint16] {
	return func(yield func([]uint16) bool) {
		last := [][]uint16{nil}
		for length := 0; length <= longest; length++ {
			var next [][]uint16
			for _, u := range last {
				if !yield(u) {
					return
				}
				for letter := range uint16(1) << props {
					next = append(next, append(slices.Clone(u), letter))
				}
			}
			last = next
		}
	}
}

// behind is what a machine says behind letters.
func behind(m api.Moore, u []uint16) api.Verdict {
	s := 0
	for _, letter := range u {
		s = m.Next[s][letter]
	}
	return m.Out[s]
}

func holds(t *testing.T, f api.Formula, names []string, w api.Word) bool {
	t.Helper()
	is, err := eval.Holds(f, names, w)
	if err != api.OK {
		t.Fatal(told(f), names, w, err)
	}
	return is
}

// shower finds words that hold a formula in negation normal form, if there are any behind a row.
type shower struct {
	f     api.Formula
	names []string
	a     api.Buchi
}

func newShower(t *testing.T, form func(api.Formula) (api.Formula, api.Errno), f api.Formula, names []string) shower {
	t.Helper()
	g, err := form(f)
	if err != api.OK {
		t.Fatal(told(f), err)
	}
	x, err := tableau.Of(g, names, 20000)
	if err != api.OK {
		t.Fatal(told(f), err)
	}
	a, err := buchi.Degen(x.General())
	if err != api.OK {
		t.Fatal(told(f), err)
	}
	return shower{g, names, a}
}

// shown is such a word, which begins with the row.
func (s shower) shown(t *testing.T, u []uint16) (api.Word, bool) {
	t.Helper()
	at := bits.Of(s.a.States, s.a.Init...)
	for _, letter := range u {
		at = buchi.Step(s.a, at, letter)
	}
	w, found, err := empty.From(s.a, slices.Collect(at.All())...)
	if err != api.OK {
		t.Fatal(err)
	}
	return words.Join(u, w), found
}

// wantVerdicts wants T1: behind each short row no small end fails what is true, none holds what is false; and what is inconclusive is shown to be so, by words that eval is asked of.
func wantVerdicts(t *testing.T, f api.Formula, names []string, m api.Moore, ends []api.Word) {
	t.Helper()
	for u := range rows(len(names), 3) {
		var some, none bool
		for _, end := range ends {
			is := holds(t, f, names, words.Join(u, end))
			some, none = some || is, none || !is
		}
		says := behind(m, u)
		if some && says == api.False || none && says == api.True {
			t.Fatalf("%s over %q behind %v: %d", told(f), names, u, says)
		}
		if says != api.Inconclusive || some && none {
			continue
		}
		can, is := newShower(t, nnf.Normal, f, names).shown(t, u)
		fails, is2 := newShower(t, nnf.Dual, f, names).shown(t, u)
		if !is || !is2 || !holds(t, f, names, can) || holds(t, f, names, fails) {
			t.Fatalf("%s over %q behind %v is inconclusive: %v, %v, %v, %v", told(f), names, u, can, is, fails, is2)
		}
	}
}

// T1, of people's formulas and of drawn ones, over their own names and over others.
func TestVerdicts(t *testing.T) {
	var list []api.Formula
	for _, text := range texts() {
		list = append(list, read(text))
	}
	ends := slices.Collect(words.All(2, 2))
	said := map[api.Verdict]int{}
	for _, f := range append(list, someFormulas(200, 4)...) {
		if c, ok := countsByHand(t, f, ab()); !ok || c.Splits > 8 {
			continue
		}
		m := madeOf(t, f, ab(), wide())
		wantVerdicts(t, f, ab(), m, ends)
		for _, out := range m.Out {
			said[out]++
		}
		turned := []string{"b", "a"}
		wantVerdicts(t, f, turned, madeOf(t, f, turned, wide()), ends[:20])
	}
	for v := api.True; v <= api.Inconclusive; v++ {
		if said[v] < 100 {
			t.Errorf("%d is said %d times", v, said[v])
		}
	}
}

// T1: over three names, one of which the formula lacks.
func TestVerdictsOverMore(t *testing.T) {
	ends := slices.Collect(words.All(3, 1))
	for _, f := range someFormulas(60, 4) {
		if c, ok := countsByHand(t, f, ab()); ok && c.Splits <= 8 {
			names := []string{"b", "x", "a"}
			wantVerdicts(t, f, names, madeOf(t, f, names, wide()), ends)
		}
	}
}

// T3 and T4: least, numbered by breadth, a trap; the Least of the Product that the chapter names.
func TestLeast(t *testing.T) {
	for _, x := range someCounted(t, 400) {
		if least, err := moore.Least(x.m); err != api.OK || !same(least, x.m) {
			t.Fatalf("%s: %+v; its Least: %+v", x.text, x.m, least)
		}
		for s := range x.m.Out {
			for other := range s {
				if _, apart, err := moore.Apart(x.m, s, other); !apart || err != api.OK {
					t.Fatalf("%s: %+v: %d and %d say the same", x.text, x.m, s, other)
				}
			}
		}
		if is, err := moore.Trap(x.m); !is || err != api.OK {
			t.Fatalf("%s: %+v is no trap", x.text, x.m)
		}
		next := 1
		for s, row := range x.m.Next {
			if s >= next {
				t.Fatalf("%s: %+v: %d is not come to", x.text, x.m, s)
			}
			for _, to := range row {
				if to > next {
					t.Fatalf("%s: %+v: %d is come to ahead of %d", x.text, x.m, to, next)
				}
				next = max(next, to+1)
			}
		}
		if c, ok := synth.Count(x.text, wide()); !ok || len(x.m.Out) > c.States*c.States {
			t.Fatalf("%s: %d states, %+v", x.text, len(x.m.Out), c)
		}
	}
}

// otherWords is a formula that holds of the same words, and is said otherwise at some places.
func (d *draw) otherWords(f api.Formula) api.Formula {
	kids := make([]api.Formula, len(f.Kids))
	for i, kid := range f.Kids {
		kids[i] = d.otherWords(kid)
	}
	g := api.Formula{Op: f.Op, Name: f.Name, Kids: kids}
	if d.below(3) > 0 {
		return g
	}
	var a, b api.Formula
	if len(kids) > 0 {
		a, b = kids[0], kids[len(kids)-1]
	}
	not := func(f api.Formula) api.Formula { return op(api.OpNot, f) }
	switch f.Op {
	case api.OpTrue:
		return not(op(api.OpFalse))
	case api.OpAnd, api.OpOr, api.OpIff:
		return op(f.Op, b, a)
	case api.OpImp:
		return op(api.OpOr, not(a), b)
	case api.OpEvent:
		return op(api.OpOr, a, op(api.OpNext, op(api.OpEvent, a)))
	case api.OpAlways:
		return not(op(api.OpEvent, not(a)))
	case api.OpUntil:
		return op(api.OpOr, b, op(api.OpAnd, a, op(api.OpNext, g)))
	case api.OpRelease:
		return not(op(api.OpUntil, not(a), not(b)))
	case api.OpWeak:
		return op(api.OpRelease, b, op(api.OpOr, a, b))
	case api.OpStrong:
		return op(api.OpUntil, b, op(api.OpAnd, a, b))
	case api.OpNext:
		return not(op(api.OpNext, not(a)))
	}
	return not(not(g))
}

// T3: whoever says the same in other words gets the same machine.
func TestOtherWords(t *testing.T) {
	d := draw(9)
	held := 0
	for _, f := range someFormulas(500, 4) {
		c, ok := countsByHand(t, f, ab())
		if !ok || c.Splits > 8 {
			continue
		}
		want := madeOf(t, f, ab(), wide())
		normal, _ := nnf.Normal(f)
		simple, _ := nnf.Simple(f)
		dual, _ := nnf.Dual(f)
		for _, g := range []api.Formula{normal, simple, op(api.OpNot, dual), d.otherWords(f), d.otherWords(f)} {
			if c, ok := countsByHand(t, g, ab()); !ok || c.Splits > 10 {
				continue
			}
			held++
			if m := madeOf(t, g, ab(), wide()); !same(m, want) {
				t.Fatalf("%s: %+v; %s: %+v", told(f), want, told(g), m)
			}
		}
	}
	if held < 1000 {
		t.Errorf("%d were held", held)
	}
}

// The same, of people's formulas; what does not say the same has another machine.
func TestClasses(t *testing.T) {
	classes := [][]string{
		{"true", "a | !a", "F true", "F a | G !a"},
		{"false", "G a & F !a", "a & X false", "G F a & F G !a", "(a U b) & G !b"},
		{"a U b", "b | (a & X (a U b))", "!(!a R !b)", "(a W b) & F b"},
		{"F a", "F F a", "true U a", "!G !a", "a | X F a"},
		{"G a", "G G a", "a & X G a", "a W false", "G a & G (a | b)"},
		{"G (a -> X b)", "!F (a & X !b)", "G (X b | !a)"},
		{"X (a & b)", "X b & X a"},
		{"G F a", "F G a", "G F b", "F G (a & b)"}, // never sure
	}
	var firsts []api.Moore
	for _, class := range classes {
		want := madeOf(t, read(class[0]), ab(), wide())
		for _, text := range class {
			if m := madeOf(t, read(text), ab(), wide()); !same(m, want) {
				t.Errorf("%s: %+v; %s: %+v", class[0], want, text, m)
			}
		}
		for i, first := range firsts {
			if same(first, want) {
				t.Errorf("%s and %s have one machine", classes[i][0], class[0])
			}
		}
		firsts = append(firsts, want)
	}
}

// With greater limits it is the same machine; Of of what Parse gives, over its names, is Synthesize of the text, whatever its brackets.
func TestSameMachine(t *testing.T) {
	for _, x := range someCounted(t, 80) {
		l := limitsOf(x.counts)
		for _, by := range []int{0, 1, 100, math.MaxInt} {
			for _, field := range []*int{&l.Text, &l.Nodes, &l.Depth, &l.Props, &l.Splits, &l.Tableau, &l.States} {
				*field += min(by, math.MaxInt-*field)
				if m := made(t, x.text, l); !same(m, x.m) {
					t.Fatalf("%s, %+v: %+v, want %+v", x.text, l, m, x.m)
				}
				if m := madeOf(t, x.f, tree.Names(x.f), l); !same(m, x.m) {
					t.Fatalf("Of %s, %+v: %+v, want %+v", x.text, l, m, x.m)
				}
			}
		}
		if m := made(t, " ("+x.text+" )", l); !same(m, x.m) {
			t.Fatalf("%s in brackets: %+v, want %+v", x.text, m, x.m)
		}
	}
}

// smallFormulas are all of at most so many nodes over these names.
func smallFormulas(nodes int, names ...string) []api.Formula {
	bySize := make([][]api.Formula, nodes+1)
	for size := 1; size <= nodes; size++ {
		if size == 1 {
			bySize[1] = []api.Formula{op(api.OpTrue), op(api.OpFalse)}
			for _, name := range names {
				bySize[1] = append(bySize[1], prop(name))
			}
			continue
		}
		for _, kid := range bySize[size-1] {
			for _, o := range []api.Op{api.OpNot, api.OpNext, api.OpEvent, api.OpAlways} {
				bySize[size] = append(bySize[size], op(o, kid))
			}
		}
		for left := 1; left < size-1; left++ {
			for _, a := range bySize[left] {
				for _, b := range bySize[size-1-left] {
					for _, o := range []api.Op{api.OpAnd, api.OpOr, api.OpImp, api.OpIff, api.OpUntil, api.OpRelease, api.OpWeak, api.OpStrong} {
						bySize[size] = append(bySize[size], op(o, a, b))
					}
				}
			}
		}
	}
	return slices.Concat(bySize...)
}

// Enough is enough: each formula of at most so many nodes over at most so many names has a monitor with it, as a text and as a formula. And T1 of all of them.
func TestEnoughIsEnough(t *testing.T) {
	ends := slices.Collect(words.All(2, 1))
	for _, f := range smallFormulas(4, "a", "b") {
		names := tree.Names(f)
		l := synth.Enough(tree.Size(f), len(names))
		m := made(t, told(f), l)
		if !same(m, madeOf(t, f, names, l)) {
			t.Fatal(told(f))
		}
		m = madeOf(t, f, ab(), synth.Enough(4, 2))
		if tree.Size(f) < 4 {
			wantVerdicts(t, f, ab(), m, ends)
		}
	}
}
