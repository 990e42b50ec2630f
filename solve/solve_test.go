package solve_test

import (
	"fmt"
	"slices"
	"strings"
	"testing"

	"augur/api"
	"augur/solve"
	"augur/syntax"
	"augur/words"
)

// The calls as the chapter lists them.
var (
	_ func(api.Formula, []string) (api.Word, bool, api.Errno)              = solve.Sat
	_ func(api.Formula, []string) (api.Word, bool, api.Errno)              = solve.Valid
	_ func(api.Formula, api.Formula, []string) (api.Word, bool, api.Errno) = solve.Implies
	_ func(api.Formula, api.Formula, []string) (api.Word, bool, api.Errno) = solve.Same
	_ func([]string, ...api.Formula) ([]int, bool, api.Errno)              = solve.Core
)

func TestNumbers(t *testing.T) {
	for err, want := range map[api.Errno]int{api.OK: 0, api.ErrMuch: 2, api.ErrTreeBig: 31, api.ErrBuchiForm: 100, api.ErrSolveForm: 190} {
		if int(err) != want {
			t.Errorf("error %d, want %d", int(err), want)
		}
	}
}

func prop(name string) api.Formula                 { return api.Formula{Op: api.OpProp, Name: name} }
func op(o api.Op, kids ...api.Formula) api.Formula { return api.Formula{Op: o, Kids: kids} }
func not(f api.Formula) api.Formula                { return op(api.OpNot, f) }

func ab() []string     { return []string{"a", "b"} }
func pq() []string     { return []string{"p", "q"} }
func names8() []string { return strings.Split("a b c d e f g h", " ") }

// read is the formula of a text.
func read(text string) api.Formula {
	f, err := syntax.Parse(text, api.Limits{Text: api.MaxText, Nodes: api.MaxNodes, Depth: api.MaxDepth, Props: api.MaxProps})
	if err != nil {
		panic(text + ": " + err.Error())
	}
	return f
}

func readAll(texts ...string) []api.Formula {
	var list []api.Formula
	for _, text := range texts {
		list = append(list, read(text))
	}
	return list
}

// told is a formula's text, if it has one.
func told(f api.Formula) string {
	if text, err := syntax.Print(f); err == api.OK {
		return text
	}
	return fmt.Sprintf("%.300s", fmt.Sprintf("%+v", f))
}

func toldAll(l []api.Formula) string {
	var texts []string
	for _, f := range l {
		texts = append(texts, told(f))
	}
	return strings.Join(texts, "; ")
}

// chain is o so many times in a row, ahead of f.
func chain(n int, o api.Op, f api.Formula) api.Formula {
	for range n {
		f = op(o, f)
	}
	return f
}

// spread has these leaves and one less of o over them, and no great depth.
func spread(o api.Op, leaves ...api.Formula) api.Formula {
	if len(leaves) == 1 {
		return leaves[0]
	}
	half := len(leaves) / 2
	return op(o, spread(o, leaves[:half]...), spread(o, leaves[half:]...))
}

// spreadOf is one leaf so many times, spread.
func spreadOf(n int, o api.Op, leaf api.Formula) api.Formula {
	return spread(o, slices.Repeat([]api.Formula{leaf}, n)...)
}

// draw is a source of numbers that are always the same.
type draw uint32

func (d *draw) below(n int) int {
	*d = *d*1664525 + 1013904223
	return int(*d>>8) % n
}

// formula is one of at most that depth, over those names.
func (d *draw) formula(depth int, names ...string) api.Formula {
	if kind := d.below(6); depth == 1 || kind == 0 {
		if d.below(8) == 0 {
			return op(api.OpTrue + api.Op(d.below(2)))
		}
		return prop(names[d.below(len(names))])
	}
	o := api.OpNot + api.Op(d.below(int(api.OpStrong-api.OpNot)+1))
	switch o {
	case api.OpNot, api.OpNext, api.OpEvent, api.OpAlways:
		return op(o, d.formula(depth-1, names...))
	}
	return op(o, d.formula(depth-1, names...), d.formula(depth-1, names...))
}

// people are formulas that people would write.
func people() []api.Formula {
	return readAll("true", "false", "a", "!a", "a & !a", "a | !a", "X a", "X X (a & b)", "a U b", "a R b", "a W b", "a M b", "G a", "F b", "!F b", "G F a", "F G a", "G (a -> F b)", "G (a -> X b)", "G F a & G F b", "G F a & G b", "!(a U X b)", "G (a <-> X !a)", "(X a) <-> (X b)", "F (a & X F b)", "G F a & F G !a",
		"(a U b) & G !b", "b | (a & X (a U b))", "G (a -> X (!a U b))", "F a -> (!b U a)", "a -> G b", "F (a & X X X b)", "(a U b) U a", "G (a | X a) & F b", "(G a) | F b", "G F a | F b", "a & X G F b | !a & F b", "G F a <-> G F b", "F G a -> G F b", "X G F a", "a & G F b", "a W (b & G F a)")
}

// some are people's formulas over a and b, and drawn ones, so many in all.
func some(n, depth int) []api.Formula {
	d := draw(n)
	list := people()
	for len(list) < n {
		list = append(list, d.formula(depth, "a", "b"))
	}
	return list[:n]
}

// small are all formulas over a of at most that depth.
func small(depth int) []api.Formula {
	list := []api.Formula{op(api.OpTrue), op(api.OpFalse), prop("a")}
	for range depth - 1 {
		longer := list[:3:3]
		for o := api.OpNot; o <= api.OpStrong; o++ {
			for _, f := range list {
				switch o {
				case api.OpNot, api.OpNext, api.OpEvent, api.OpAlways:
					longer = append(longer, op(o, f))
					continue
				}
				for _, g := range list {
					longer = append(longer, op(o, f, g))
				}
			}
		}
		list = longer
	}
	return list
}

// shown is a word as a text; "" of noughts.
func shown(w api.Word) string {
	if len(w.Stem) == 0 && len(w.Loop) == 0 {
		return ""
	}
	return words.Show(w)
}

// isWord tells whether a word has just this stem and this loop.
func isWord(w api.Word, stem, loop []uint16) bool {
	return slices.Equal(w.Stem, stem) && slices.Equal(w.Loop, loop)
}

// call is one of the four that tell a word, of formulas that are handed in one by one.
type call struct {
	name string
	of   int // how many formulas it takes
	ask  func(names []string, l ...api.Formula) (api.Word, bool, api.Errno)
}

func calls() []call {
	return []call{
		{"Sat", 1, func(names []string, l ...api.Formula) (api.Word, bool, api.Errno) { return solve.Sat(l[0], names) }},
		{"Valid", 1, func(names []string, l ...api.Formula) (api.Word, bool, api.Errno) { return solve.Valid(l[0], names) }},
		{"Implies", 2, func(names []string, l ...api.Formula) (api.Word, bool, api.Errno) {
			return solve.Implies(l[0], l[1], names)
		}},
		{"Same", 2, func(names []string, l ...api.Formula) (api.Word, bool, api.Errno) {
			return solve.Same(l[0], l[1], names)
		}},
	}
}

// wantTold wants of a call this answer, and no error.
func wantTold(t *testing.T, c call, names []string, l []api.Formula, is bool, stem, loop []uint16) {
	t.Helper()
	if w, got, err := c.ask(names, l...); err != api.OK || got != is || !isWord(w, stem, loop) {
		t.Fatalf("%s(%s) over %q: %v, %v, %v; want %v, %v, %v", c.name, toldAll(l), names, w, got, err, stem, loop, is)
	}
}

// wantNo wants of a call an error, and nothing beside it.
func wantNo(t *testing.T, c call, names []string, l []api.Formula, want api.Errno) {
	t.Helper()
	if w, is, err := c.ask(names, l...); err != want || is || len(w.Stem) != 0 || len(w.Loop) != 0 {
		t.Fatalf("%s(%s) over %q: %v, %v, %v; want %v", c.name, toldAll(l), names, w, is, err, want)
	}
}

// wantCore wants a core of formulas.
func wantCore(t *testing.T, names []string, l []api.Formula, found bool, want ...int) {
	t.Helper()
	if row, is, err := solve.Core(names, l...); err != api.OK || is != found || !slices.Equal(row, want) {
		t.Fatalf("Core(%s) over %q: %v, %v, %v; want %v, %v", toldAll(l), names, row, is, err, want, found)
	}
}

// wantNoCore wants of Core an error, and nothing beside it.
func wantNoCore(t *testing.T, names []string, l []api.Formula, want api.Errno) {
	t.Helper()
	if row, is, err := solve.Core(names, l...); err != want || is || len(row) != 0 {
		t.Fatalf("Core(%s) over %q: %v, %v, %v; want %v", toldAll(l), names, row, is, err, want)
	}
}

// The chapter's examples.
func TestExamples(t *testing.T) {
	all := calls()
	sat, valid, implies, same := all[0], all[1], all[2], all[3]
	wantTold(t, sat, pq(), readAll("p U q"), true, []uint16{2}, []uint16{0})
	wantTold(t, sat, pq(), readAll("p & !p"), false, nil, nil)
	wantTold(t, sat, pq(), readAll("G p & F !p"), false, nil, nil)
	wantTold(t, valid, pq(), readAll("p | !p"), true, nil, nil)
	wantTold(t, valid, pq(), readAll("F p"), false, nil, []uint16{0})
	wantTold(t, implies, pq(), readAll("G p", "p"), true, nil, nil)
	wantTold(t, implies, pq(), readAll("p", "G p"), false, []uint16{1, 0}, []uint16{0})
	wantTold(t, same, pq(), readAll("F p", "true U p"), true, nil, nil)
	wantCore(t, pq(), readAll("G p", "q", "F !p", "!q"), true, 0, 2)
	wantCore(t, pq(), readAll("p", "q"), false)
	wantCore(t, pq(), readAll("false"), true, 0)
}

// DOC.md's example 7.
func TestWhatFollows(t *testing.T) {
	all := calls()
	implies, same := all[2], all[3]
	wantTold(t, implies, ab(), readAll("G a", "a"), true, nil, nil)
	wantTold(t, implies, ab(), readAll("a", "G a"), false, []uint16{1, 0}, []uint16{0})
	wantTold(t, same, ab(), readAll("F F a", "F a"), true, nil, nil)
}
