package nnf_test

import (
	"fmt"
	"slices"
	"strings"
	"testing"

	"augur/api"
	"augur/eval"
	"augur/nnf"
	"augur/syntax"
	"augur/tree"
	"augur/words"
)

// The calls as the chapter lists them.
var (
	_ func(api.Formula) (api.Formula, api.Errno) = nnf.Normal
	_ func(api.Formula) bool                     = nnf.Is
	_ func(api.Formula) (api.Formula, api.Errno) = nnf.Dual
	_ func(api.Formula) (api.Formula, api.Errno) = nnf.Simple
)

func prop(name string) api.Formula                 { return api.Formula{Op: api.OpProp, Name: name} }
func op(o api.Op, kids ...api.Formula) api.Formula { return api.Formula{Op: o, Kids: kids} }

var (
	ofNone = []api.Op{api.OpTrue, api.OpFalse, api.OpProp}
	ofOne  = []api.Op{api.OpNot, api.OpNext, api.OpEvent, api.OpAlways}
	ofTwo  = []api.Op{api.OpAnd, api.OpOr, api.OpImp, api.OpIff, api.OpUntil, api.OpRelease, api.OpWeak, api.OpStrong}
	ofPast = []api.Op{api.OpYest, api.OpWeakYest, api.OpOnce, api.OpHist, api.OpSince, api.OpTrig}
)

// read is the formula of a text.
func read(text string) api.Formula {
	f, err := syntax.Parse(text, api.Limits{Text: api.MaxText, Nodes: api.MaxNodes, Depth: api.MaxDepth, Props: api.MaxProps})
	if err != nil {
		panic(text + ": " + err.Error())
	}
	return f
}

// show is a text that tells a tree from all others.
func show(f api.Formula) string {
	s := fmt.Sprintf("%d%q(", f.Op, f.Name)
	for _, kid := range f.Kids {
		s += show(kid)
	}
	return s + ")"
}

func same(f, g api.Formula) bool { return show(f) == show(g) }

// told is a formula's text, if it has one.
func told(f api.Formula) string {
	if text, err := syntax.Print(f); err == api.OK {
		return text
	}
	return show(f)
}

// row is o so many times in a row, ahead of f.
func row(n int, o api.Op, f api.Formula) api.Formula {
	for range n {
		f = op(o, f)
	}
	return f
}

// spread has n leaves and one less over them, and no great depth.
func spread(o api.Op, n int, leaf api.Formula) api.Formula {
	if n == 1 {
		return leaf
	}
	return op(o, spread(o, n/2, leaf), spread(o, n-n/2, leaf))
}

// draw is a source of numbers that are always the same.
type draw uint32

func (d *draw) below(n int) int {
	*d = *d*1664525 + 1013904223
	return int(*d>>8) % n
}

// formula is one of at most that depth over p and q.
func (d *draw) formula(depth int) api.Formula {
	n := d.below(5) * 2 / 3 // 0, 0, 1, 2, 2
	if depth == 1 {
		n = 0
	}
	ops := [][]api.Op{ofNone, ofOne, ofTwo}[n]
	f := op(ops[d.below(len(ops))])
	if n == 0 && d.below(4) > 0 || f.Op == api.OpProp {
		f = prop([]string{"p", "q"}[d.below(2)])
	}
	for range n {
		f.Kids = append(f.Kids, d.formula(depth-1))
	}
	return f
}

// over are all formulas that an operator has over those.
func over(kids []api.Formula) []api.Formula {
	var list []api.Formula
	for _, g := range kids {
		for _, o := range ofOne {
			list = append(list, op(o, g))
		}
		for _, h := range kids {
			for _, o := range ofTwo {
				list = append(list, op(o, g, h))
			}
		}
	}
	return list
}

func leaves() []api.Formula {
	return []api.Formula{op(api.OpTrue), op(api.OpFalse), prop("p"), prop("q")}
}

// small are all of depth 1 and 2 over p and q, and what each operator is of those and a few others.
func small() []api.Formula {
	few := leaves()
	for _, text := range []string{"!p", "X p", "F p", "G p", "G F p", "F G p", "F G q", "p & q", "p | q", "q | p", "p -> q", "p <-> q", "p U q", "p R q", "p W q", "p M q", "!(p & q)"} {
		few = append(few, read(text))
	}
	return append(few, over(few)...)
}

// someFormulas are some that stand deeper.
func someFormulas(n, depth int) []api.Formula {
	d := draw(n)
	var list []api.Formula
	for len(list) < n {
		if f := d.formula(depth); len(f.Kids) > 0 {
			list = append(list, f)
		}
	}
	return list
}

// someWords are all small ones over p and q, and some longer ones.
func someWords() []api.Word {
	list := slices.Collect(words.All(2, 1))
	d := draw(5)
	for range 16 {
		var w api.Word
		for range d.below(5) {
			w.Stem = append(w.Stem, uint16(d.below(4)))
		}
		for range 1 + d.below(4) {
			w.Loop = append(w.Loop, uint16(d.below(4)))
		}
		list = append(list, w)
	}
	return list
}

// want wants that formula of a call, without an error.
func want(t *testing.T, call func(api.Formula) (api.Formula, api.Errno), f, form api.Formula) {
	t.Helper()
	if got, err := call(f); err != api.OK || !same(got, form) {
		t.Errorf("of %.300s: %.300s, %v; want %.300s", told(f), told(got), err, told(form))
	}
}

// wantNone wants that error of a call, and noughts beside it.
func wantNone(t *testing.T, call func(api.Formula) (api.Formula, api.Errno), f api.Formula, number api.Errno) {
	t.Helper()
	if got, err := call(f); err != number || got.Op != 0 || got.Name != "" || len(got.Kids) != 0 {
		t.Errorf("of a tree of %d parts: %.300s, %v; want %v", tree.Size(f), show(got), err, number)
	}
}

// answer wants one without an error.
func answer(t *testing.T, call func(api.Formula) (api.Formula, api.Errno), f api.Formula) api.Formula {
	t.Helper()
	got, err := call(f)
	if err != api.OK {
		t.Fatalf("of %.300s: %v", told(f), err)
	}
	return got
}

// sortedNames are a formula's names, in one order.
func sortedNames(f api.Formula) string {
	return strings.Join(slices.Sorted(slices.Values(tree.Names(f))), " ")
}

// T6, with chapter 6: Normal and Simple hold of the words that f holds of, place by place, Dual of the others.
func TestSameMeaning(t *testing.T) {
	list := append(small(), someFormulas(1000, 7)...)
	var tables []*eval.Table
	for _, w := range someWords() {
		known, err := eval.New([]string{"p", "q"}, w)
		if err != api.OK {
			t.Fatal(w, err)
		}
		tables = append(tables, known)
	}
	for _, f := range list {
		n, d, s := answer(t, nnf.Normal, f), answer(t, nnf.Dual, f), answer(t, nnf.Simple, f)
		for i, known := range tables {
			inF, err := known.Row(f)
			inN, errN := known.Row(n)
			inD, errD := known.Row(d)
			inS, errS := known.Row(s)
			if err != api.OK || errN != api.OK || errD != api.OK || errS != api.OK {
				t.Fatal(told(f), err, errN, errD, errS)
			}
			for place, holds := range inF {
				if inN[place] != holds || inS[place] != holds || inD[place] == holds {
					t.Fatalf("%s at %d of word %d: %v; %s: %v; %s: %v; %s: %v", told(f), place, i, holds, told(n), inN[place], told(d), inD[place], told(s), inS[place])
				}
			}
		}
	}
}
