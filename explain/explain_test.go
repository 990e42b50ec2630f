package explain_test

import (
	"fmt"
	"slices"
	"strings"
	"testing"

	"augur/api"
	"augur/explain"
	"augur/syntax"
	"augur/synth"
	"augur/words"
)

// The calls as the chapter lists them.
var (
	_ func(api.Formula, []string, ...uint16) ([]api.Word, []api.Word, api.Errno) = explain.Witness
	_ func(api.Moore, int, api.Verdict) ([]uint16, bool, api.Errno)              = explain.Nearest
	_ func(api.Moore) ([]int, api.Errno)                                         = explain.Dead
	_ func(api.Formula, []string) (api.Class, api.Errno)                         = explain.Classify
)

func TestNumbers(t *testing.T) {
	for err, want := range map[api.Errno]int{api.ErrArg: 1, api.ErrMooreForm: 140, api.ErrExplainForm: 180, api.ErrTreeForm: 30, api.ErrTreeBig: 31, api.ErrEvalProp: 60, api.ErrLimitNodes: 42, api.ErrLimitDepth: 43, api.ErrLimitTableau: 92, api.ErrLimitSplits: 93, api.ErrLimitStates: 131} {
		if int(err) != want {
			t.Errorf("error %d, want %d", int(err), want)
		}
	}
}

func prop(name string) api.Formula                 { return api.Formula{Op: api.OpProp, Name: name} }
func op(o api.Op, kids ...api.Formula) api.Formula { return api.Formula{Op: o, Kids: kids} }
func not(f api.Formula) api.Formula                { return op(api.OpNot, f) }

func ab() []string     { return []string{"a", "b"} }
func names8() []string { return strings.Split("a b c d e f g h", " ") }

// read is the formula of a text.
func read(text string) api.Formula {
	f, err := syntax.Parse(text, api.Limits{Text: api.MaxText, Nodes: api.MaxNodes, Depth: api.MaxDepth, Props: api.MaxProps})
	if err != nil {
		panic(text + ": " + err.Error())
	}
	return f
}

// told is a formula's text, if it has one.
func told(f api.Formula) string {
	if text, err := syntax.Print(f); err == api.OK {
		return text
	}
	return fmt.Sprintf("%+v", f)
}

// chain is o so many times in a row, ahead of f.
func chain(n int, o api.Op, f api.Formula) api.Formula {
	for range n {
		f = op(o, f)
	}
	return f
}

// spread has these leaves and one less of o over them, and no great depth.
func spread(o api.Op, leaves ...api.Formula) api.Formula {
	if len(leaves) == 1 {
		return leaves[0]
	}
	half := len(leaves) / 2
	return op(o, spread(o, leaves[:half]...), spread(o, leaves[half:]...))
}

// draw is a source of numbers that are always the same.
type draw uint32

func (d *draw) below(n int) int {
	*d = *d*1664525 + 1013904223
	return int(*d>>8) % n
}

// formula is one of at most that depth, over those names.
func (d *draw) formula(depth int, names ...string) api.Formula {
	if kind := d.below(6); depth == 1 || kind == 0 {
		if d.below(8) == 0 {
			return op(api.OpTrue + api.Op(d.below(2)))
		}
		return prop(names[d.below(len(names))])
	}
	o := api.OpNot + api.Op(d.below(int(api.OpStrong-api.OpNot)+1))
	switch o {
	case api.OpNot, api.OpNext, api.OpEvent, api.OpAlways:
		return op(o, d.formula(depth-1, names...))
	}
	return op(o, d.formula(depth-1, names...), d.formula(depth-1, names...))
}

func (d *draw) letters(length, props int) []uint16 {
	u := make([]uint16, length)
	for i := range u {
		u[i] = uint16(d.below(1 << props))
	}
	return u
}

// machine is one of at most so many states: most say inconclusive, and most that do not stay as they are, as those of monitors do.
func (d *draw) machine(states, props int) api.Moore {
	n := 1 + d.below(states)
	m := api.Moore{Props: names8()[:props], Next: make([][]int, n), Out: make([]api.Verdict, n)}
	for s := range n {
		m.Out[s] = max(1, 3-api.Verdict(max(0, d.below(6)-3)))
		m.Next[s] = make([]int, 1<<props)
		stays := m.Out[s] != api.Inconclusive && d.below(4) > 0
		near := d.below(2) == 0
		for letter := range m.Next[s] {
			switch {
			case stays:
				m.Next[s][letter] = s
			case near: // so that ways are long
				m.Next[s][letter] = min(n-1, s+d.below(2))
			default:
				m.Next[s][letter] = d.below(n)
			}
		}
	}
	return m
}

// people are formulas that people would write.
func people() []api.Formula {
	var list []api.Formula
	for _, text := range []string{"true", "false", "a", "!a", "a & !a", "a | !a", "X a", "X X (a & b)", "a U b", "a R b", "a W b", "a M b", "G a", "F b", "!F b", "G F a", "F G a", "G (a -> F b)", "G (a -> X b)", "G F a & G F b", "G F a & G b", "!(a U X b)", "G (a <-> X !a)", "(X a) <-> (X b)", "F (a & X F b)", "G F a & F G !a",
		"(a U b) & G !b", "b | (a & X (a U b))", "G (a -> X (!a U b))", "F a -> (!b U a)", "a -> G b", "F (a & X X X b)", "(a U b) U a", "G (a | X a) & F b", "(G a) | F b", "G F a | F b", "a & X G F b | !a & F b", "G F a <-> G F b", "F G a -> G F b", "X G F a", "a & G F b", "a W (b & G F a)"} {
		list = append(list, read(text))
	}
	return list
}

// some are formulas over a and b that have a monitor: people's, and drawn ones, so many in all.
func some(n, depth int) []api.Formula {
	d := draw(n)
	list := people()
	for len(list) < n {
		f := d.formula(depth, "a", "b")
		if _, err := synth.Of(f, ab(), synth.Default()); err == nil {
			list = append(list, f)
		}
	}
	return list
}

// rows are all rows of so many letters, the lesser ones ahead.
func rows(props, length int) [][]uint16 {
	list := [][]uint16{nil}
	for range length {
		var longer [][]uint16
		for _, u := range list {
			for letter := range uint16(1) << props {
				longer = append(longer, append(slices.Clone(u), letter))
			}
		}
		list = longer
	}
	return list
}

// behind is the state of a machine behind letters.
func behind(m api.Moore, state int, u ...uint16) int {
	for _, letter := range u {
		state = m.Next[state][letter]
	}
	return state
}

func monitor(t *testing.T, f api.Formula, names []string) api.Moore {
	t.Helper()
	m, err := synth.Of(f, names, synth.Default())
	if err != nil {
		t.Fatal(told(f), names, err)
	}
	return m
}

// shown is the one word of a list, as a text; "", if there is none.
func shown(t *testing.T, list []api.Word) string {
	t.Helper()
	switch len(list) {
	case 0:
		return ""
	case 1:
		return words.Show(list[0])
	}
	t.Fatalf("%d words: %v", len(list), list)
	return ""
}

// wantWitness wants of what shows that a formula can hold, and can fail, these texts.
func wantWitness(t *testing.T, f api.Formula, names []string, u []uint16, holds, fails string) {
	t.Helper()
	h, g, err := explain.Witness(f, names, u...)
	if err != api.OK || shown(t, h) != holds || shown(t, g) != fails {
		t.Fatalf("Witness(%s, %q, %v): %v, %v, %v; want %q, %q", told(f), names, u, h, g, err, holds, fails)
	}
}

func wantNearest(t *testing.T, m api.Moore, state int, v api.Verdict, row []uint16, found bool) {
	t.Helper()
	if u, is, err := explain.Nearest(m, state, v); err != api.OK || is != found || !slices.Equal(u, row) {
		t.Fatalf("Nearest(%.500s, %d, %d): %v, %v, %v; want %v, %v", fmt.Sprint(m), state, v, u, is, err, row, found)
	}
}

func wantDead(t *testing.T, m api.Moore, dead ...int) {
	t.Helper()
	if l, err := explain.Dead(m); err != api.OK || !slices.Equal(l, dead) {
		t.Fatalf("Dead(%.500s): %v, %v; want %v", fmt.Sprint(m), l, err, dead)
	}
}

func classOf(t *testing.T, f api.Formula, names []string) api.Class {
	t.Helper()
	c, err := explain.Classify(f, names)
	if err != api.OK {
		t.Fatal(told(f), names, err)
	}
	return c
}

func wantClass(t *testing.T, f api.Formula, names []string, want api.Class) {
	t.Helper()
	if c := classOf(t, f, names); c != want {
		t.Fatalf("Classify(%s, %q): %+v, want %+v", told(f), names, c, want)
	}
}

// The chapter's examples.
func TestExamples(t *testing.T) {
	pq := []string{"p", "q"}
	wantWitness(t, read("G p"), pq, nil, "(1)", "(0)")
	wantWitness(t, read("G p"), pq, []uint16{0}, "", "(0)")
	wantWitness(t, read("p U q"), pq, []uint16{1}, "1 2 (0)", "1 (0)")
	if h, f, err := explain.Witness(read("p U q"), pq, 4); len(h) != 0 || len(f) != 0 || err != api.ErrExplainForm {
		t.Errorf("%v, %v, %v", h, f, err)
	}
	until := monitor(t, read("p U q"), pq)
	wantNearest(t, until, 0, api.True, []uint16{2}, true)
	wantNearest(t, until, 0, api.False, []uint16{0}, true)
	wantNearest(t, until, 1, api.True, nil, false)
	wantNearest(t, until, 0, api.Inconclusive, nil, true)
	wantDead(t, until)
	wantDead(t, monitor(t, read("G F p"), pq), 0)
	for text, want := range map[string]api.Class{
		"G p":         {Safe: true, Monitorable: true},
		"F p":         {CoSafe: true, Monitorable: true},
		"G F p":       {},
		"p U q":       {CoSafe: true, Monitorable: true},
		"true":        {Valid: true, Safe: true, CoSafe: true, Monitorable: true},
		"false":       {Empty: true, Safe: true, CoSafe: true, Monitorable: true},
		"(G p) | F q": {Monitorable: true},
		"X p":         {Safe: true, CoSafe: true, Monitorable: true},
	} {
		wantClass(t, read(text), pq, want)
	}
}

// DOC.md's example 6.
func TestBehindOne(t *testing.T) {
	wantWitness(t, read("a U b"), ab(), []uint16{1}, "1 2 (0)", "1 (0)")
	if m := monitor(t, read("a U b"), ab()); m.Out[behind(m, 0, 1)] != api.Inconclusive {
		t.Errorf("%+v", m)
	}
}
