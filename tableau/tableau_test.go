package tableau_test

import (
	"fmt"
	"slices"
	"strings"
	"testing"

	"augur/api"
	"augur/nnf"
	"augur/syntax"
	"augur/tableau"
	"augur/tree"
)

// The calls as the chapter lists them.
var (
	_ func(api.Formula, []string, int) (*tableau.Tableau, api.Errno) = tableau.Of
	_ func(*tableau.Tableau) []api.Formula                           = (*tableau.Tableau).Subs
	_ func(*tableau.Tableau) int                                     = (*tableau.Tableau).Len
	_ func(*tableau.Tableau) []int                                   = (*tableau.Tableau).Init
	_ func(*tableau.Tableau, int) []int                              = (*tableau.Tableau).Next
	_ func(*tableau.Tableau, int) []int                              = (*tableau.Tableau).Old
	_ func(*tableau.Tableau, int) []int                              = (*tableau.Tableau).Due
	_ func(*tableau.Tableau, int) uint16                             = (*tableau.Tableau).Must
	_ func(*tableau.Tableau, int) uint16                             = (*tableau.Tableau).Not
	_ func(*tableau.Tableau) api.General                             = (*tableau.Tableau).General
)

func prop(name string) api.Formula                 { return api.Formula{Op: api.OpProp, Name: name} }
func op(o api.Op, kids ...api.Formula) api.Formula { return api.Formula{Op: o, Kids: kids} }

func pq() []string { return []string{"p", "q"} }

func names8() []string { return strings.Split("a b c d e f g h", " ") }

// read is the formula of a text.
func read(text string) api.Formula {
	f, err := syntax.Parse(text, api.Limits{Text: api.MaxText, Nodes: api.MaxNodes, Depth: api.MaxDepth, Props: api.MaxProps})
	if err != nil {
		panic(text + ": " + err.Error())
	}
	return f
}

// normal is that of a text's formula.
func normal(text string) api.Formula {
	f, err := nnf.Normal(read(text))
	if err != api.OK {
		panic(text + ": " + err.Error())
	}
	return f
}

// show is a text that tells a tree from all others.
func show(f api.Formula) string {
	s := fmt.Sprintf("%d%q(", f.Op, f.Name)
	for _, kid := range f.Kids {
		s += show(kid)
	}
	return s + ")"
}

// told is a formula's text, if it has one.
func told(f api.Formula) string {
	if text, err := syntax.Print(f); err == api.OK {
		return text
	}
	return show(f)
}

// row is o so many times in a row, ahead of f.
func row(n int, o api.Op, f api.Formula) api.Formula {
	for range n {
		f = op(o, f)
	}
	return f
}

// spread has these leaves and one less of o over them, and no great depth.
func spread(o api.Op, leaves ...api.Formula) api.Formula {
	if len(leaves) == 1 {
		return leaves[0]
	}
	half := len(leaves) / 2
	return op(o, spread(o, leaves[:half]...), spread(o, leaves[half:]...))
}

// draw is a source of numbers that are always the same.
type draw uint32

func (d *draw) below(n int) int {
	*d = *d*1664525 + 1013904223
	return int(*d>>8) % n
}

// formula is one in negation normal form, of at most that depth, over those names.
func (d *draw) formula(depth int, names ...string) api.Formula {
	kind := d.below(10)
	if depth == 1 || kind < 2 {
		switch p := prop(names[d.below(len(names))]); d.below(8) {
		case 0:
			return op(api.OpTrue)
		case 1:
			return op(api.OpFalse)
		case 2, 3, 4:
			return p
		default:
			return op(api.OpNot, p)
		}
	}
	if kind == 2 {
		return op(api.OpNext, d.formula(depth-1, names...))
	}
	two := []api.Op{api.OpAnd, api.OpOr, api.OpUntil, api.OpRelease}
	return op(two[d.below(4)], d.formula(depth-1, names...), d.formula(depth-1, names...))
}

// someFormulas are some over p and q with at most so many |, U and R.
func someFormulas(n, depth, splits int) []api.Formula {
	d := draw(n)
	var list []api.Formula
	for len(list) < n {
		if f := d.formula(depth, "p", "q"); len(f.Kids) > 1 && splitsOf(f) <= splits {
			list = append(list, f)
		}
	}
	return list
}

// splitsOf is how many unlike |, U and R stand in f.
func splitsOf(f api.Formula) int {
	n := 0
	for _, s := range tree.Subs(f) {
		if s.Op == api.OpOr || s.Op == api.OpUntil || s.Op == api.OpRelease {
			n++
		}
	}
	return n
}

// over are all formulas that an operator has over those.
func over(kids []api.Formula) []api.Formula {
	var list []api.Formula
	for _, g := range kids {
		list = append(list, op(api.OpNext, g))
		for _, h := range kids {
			for _, o := range []api.Op{api.OpAnd, api.OpOr, api.OpUntil, api.OpRelease} {
				list = append(list, op(o, g, h))
			}
		}
	}
	return list
}

// small are leaves, and what each operator is of those and a few others.
func small() []api.Formula {
	var few []api.Formula
	for _, text := range []string{"true", "false", "p", "q", "!p", "!q", "X p", "X !p", "X q", "p & q", "p & !p", "p | q", "p | p", "p | !p", "q | p", "p U q", "q U !p", "p U p", "true U p", "false U p", "p U false", "p R q", "!p R p", "q R q", "false R p", "true R q", "p R false", "false R (true U p)", "X (p U q)", "X X q"} {
		few = append(few, read(text))
	}
	return append(few, over(few)...)
}

// of wants a tableau.
func of(t *testing.T, f api.Formula, names []string) *tableau.Tableau {
	t.Helper()
	x, err := tableau.Of(f, names, 1<<20)
	if err != api.OK || x == nil {
		t.Fatalf("Of %.300s over %q: %v", told(f), names, err)
	}
	return x
}

// wantNone wants that error, and nothing beside it.
func wantNone(t *testing.T, f api.Formula, names []string, most int, want api.Errno) {
	t.Helper()
	if x, err := tableau.Of(f, names, most); x != nil || err != want {
		t.Errorf("Of a tree of %d parts (%.200s) over %.99q with %d: %v, %v; want %v", tree.Size(f), told(f), names, most, x != nil, err, want)
	}
}

func wantList(t *testing.T, who string, got, want []int) {
	t.Helper()
	if !slices.Equal(got, want) {
		t.Errorf("%s: %v, want %v", who, got, want)
	}
}

// The chapter's first example.
func TestUntil(t *testing.T) {
	f := read("p U q")
	x := of(t, f, pq())
	if got := x.Subs(); len(got) != 3 || show(got[0]) != show(prop("p")) || show(got[1]) != show(prop("q")) || show(got[2]) != show(f) {
		t.Errorf("Subs: %v", got)
	}
	if x.Len() != 3 {
		t.Errorf("Len: %d", x.Len())
	}
	wantList(t, "Init", x.Init(), []int{0, 1})
	for n, want := range []struct {
		next, old, due []int
		must           uint16
	}{
		{next: []int{0, 1}, old: []int{0, 2}, due: []int{2}, must: 1},
		{next: []int{2}, old: []int{1, 2}, must: 2},
		{next: []int{2}},
	} {
		wantList(t, fmt.Sprint("Next of ", n), x.Next(n), want.next)
		wantList(t, fmt.Sprint("Old of ", n), x.Old(n), want.old)
		wantList(t, fmt.Sprint("Due of ", n), x.Due(n), want.due)
		if x.Must(n) != want.must || x.Not(n) != 0 {
			t.Errorf("Must and Not of %d: %d, %d", n, x.Must(n), x.Not(n))
		}
	}
	g := x.General()
	if g.States != 3 || !slices.Equal(g.Props, pq()) || !slices.Equal(g.Init, []int{0, 1}) || len(g.Sets) != 1 {
		t.Fatalf("%+v", g)
	}
	wantList(t, "the set", g.Sets[0], []int{1, 2})
	edges := []api.Edge{{From: 0, To: 0, Must: 1}, {From: 0, To: 1, Must: 1}, {From: 1, To: 2, Must: 2}, {From: 2, To: 2}}
	if !slices.Equal(g.Edges, edges) {
		t.Errorf("Edges: %v", g.Edges)
	}
	wantNone(t, f, pq(), 2, api.ErrLimitTableau)
}

// The chapter's second example, and more by hand.
func TestHowMany(t *testing.T) {
	for _, c := range []struct {
		text       string
		nodes, ins int
	}{
		{"false", 0, 0}, {"p & !p", 0, 0}, {"!p & p", 0, 0}, {"true", 2, 1}, {"p | p", 2, 1}, {"p | q", 3, 2}, {"p | !p", 3, 2}, {"p", 2, 1}, {"!p", 2, 1}, {"p & true", 2, 1}, {"p & false", 0, 0},
		{"p | false", 2, 1}, {"X p", 3, 1}, {"X true", 3, 1}, {"X false", 1, 1}, {"X (p & !p)", 1, 1}, {"X X p", 4, 1}, {"p & X p", 3, 1},
		{"false R p", 1, 1}, {"true R p", 3, 2}, {"p R q", 3, 2}, {"p R !p", 1, 1}, {"p R p", 3, 2}, {"p R false", 0, 0}, {"true U p", 3, 2}, {"false U p", 2, 1}, {"p U false", 1, 1}, {"p U p", 3, 2}, {"p U !p", 3, 2},
		// Due has p U q by X and by the choice, or by X alone: one pair of two choices.
		{"(p U q) & X (p U q)", 5, 2}, {"(p U p) & X (p U p)", 4, 1},
		// Both sides of both are in Old already.
		{"(p & q) & ((p | q) & (q | p))", 2, 1},
	} {
		x := of(t, read(c.text), pq())
		if x.Len() != c.nodes || len(x.Init()) != c.ins {
			t.Errorf("%s: %d nodes, %d beginnings; want %d, %d", c.text, x.Len(), len(x.Init()), c.nodes, c.ins)
		}
	}
}

// A formula that stands in several places has one choice.
func TestOneChoice(t *testing.T) {
	for _, c := range []struct {
		text string
		ins  int
	}{
		{"(p | q) & (p | q)", 2}, {"(p | q) & ((p | q) & p)", 2}, {"((p | q) & !p) | ((p | q) & !q)", 2}, {"(p | q) & (q | p)", 3},
	} {
		if got := len(of(t, read(c.text), pq()).Init()); got != c.ins {
			t.Errorf("%s: %d beginnings, want %d", c.text, got, c.ins)
		}
	}
}

// Without nodes there is an automaton all the same, with a set of each U.
func TestNoNodes(t *testing.T) {
	for _, c := range []struct {
		text string
		sets int
	}{
		{"false", 0}, {"p & !p", 0}, {"(p & !p) & (p U q)", 1}, {"(false & (p U q)) & (q U (p U q))", 2},
	} {
		x := of(t, read(c.text), pq())
		g := x.General()
		if x.Len() != 0 || len(x.Init()) != 0 || g.States != 0 || len(g.Init) != 0 || len(g.Edges) != 0 || !slices.Equal(g.Props, pq()) || len(g.Sets) != c.sets {
			t.Errorf("%s: %+v", c.text, g)
		}
		for _, s := range g.Sets {
			wantList(t, c.text, s, nil)
		}
		for _, n := range []int{0, 1, -1} {
			wantNothing(t, x, n)
		}
	}
}

// wantNothing wants nothing of a node that there is not.
func wantNothing(t *testing.T, x *tableau.Tableau, n int) {
	t.Helper()
	if len(x.Next(n)) != 0 || len(x.Old(n)) != 0 || len(x.Due(n)) != 0 || x.Must(n) != 0 || x.Not(n) != 0 {
		t.Errorf("of %d: %v, %v, %v, %d, %d", n, x.Next(n), x.Old(n), x.Due(n), x.Must(n), x.Not(n))
	}
}
