package eval_test

import (
	"fmt"
	"iter"
	"slices"
	"strings"
	"testing"

	"augur/api"
	"augur/eval"
	"augur/syntax"
	"augur/words"
)

func prop(name string) api.Formula                 { return api.Formula{Op: api.OpProp, Name: name} }
func op(o api.Op, kids ...api.Formula) api.Formula { return api.Formula{Op: o, Kids: kids} }

var (
	ofNone = []api.Op{api.OpTrue, api.OpFalse, api.OpProp}
	ofOne  = []api.Op{api.OpNot, api.OpNext, api.OpEvent, api.OpAlways}
	ofTwo  = []api.Op{api.OpAnd, api.OpOr, api.OpImp, api.OpIff, api.OpUntil, api.OpRelease, api.OpWeak, api.OpStrong}
	ofPast = []api.Op{api.OpYest, api.OpWeakYest, api.OpOnce, api.OpHist, api.OpSince, api.OpTrig}
)

func pq() []string { return []string{"p", "q"} }

// read is the formula of a text.
func read(text string) api.Formula {
	f, err := syntax.Parse(text, api.Limits{Text: api.MaxText, Nodes: api.MaxNodes, Depth: api.MaxDepth, Props: api.MaxProps})
	if err != nil {
		panic(text + ": " + err.Error())
	}
	return f
}

// show is a text that tells a tree from all others.
func show(f api.Formula) string {
	s := fmt.Sprintf("%d%q(", f.Op, f.Name)
	for _, kid := range f.Kids {
		s += show(kid)
	}
	return s + ")"
}

// of is the word of a text.
func of(text string) api.Word {
	w, err, at := words.Read(text)
	if err != api.OK {
		panic(fmt.Sprint(text, err, at))
	}
	return w
}

// yn is a row as a text.
func yn(row []bool) string {
	var text strings.Builder
	for _, holds := range row {
		if holds {
			text.WriteByte('y')
		} else {
			text.WriteByte('n')
		}
	}
	return text.String()
}

// along wants an answer.
func along(t *testing.T, f api.Formula, names []string, w api.Word) []bool {
	t.Helper()
	row, err := eval.Along(f, names, w)
	if err != api.OK || len(row) != len(w.Stem)+len(w.Loop) {
		t.Fatalf("Along of %.200s, %q, %.200v: %d, %v", show(f), names, w, len(row), err)
	}
	return row
}

// table wants one.
func table(t *testing.T, names []string, w api.Word) *eval.Table {
	t.Helper()
	made, err := eval.New(names, w)
	if err != api.OK || made == nil {
		t.Fatalf("New of %q, %.200v: %v", names, w, err)
	}
	return made
}

// wantAll wants the same answer of all calls.
func wantAll(t *testing.T, f api.Formula, names []string, w api.Word, want string) {
	t.Helper()
	if got := yn(along(t, f, names, w)); got != want {
		t.Fatalf("Along of %.200s, %q, %.200v: %.99s, want %.99s", show(f), names, w, got, want)
	}
	if got, err := eval.Holds(f, names, w); err != api.OK || got != (want[0] == 'y') {
		t.Fatalf("Holds of %.200s, %q, %.200v: %v, %v", show(f), names, w, got, err)
	}
	wantKnown(t, table(t, names, w), f, want)
}

// wantKnown wants an answer of a table, at each place and as a row.
func wantKnown(t *testing.T, known *eval.Table, f api.Formula, want string) {
	t.Helper()
	if known.Places() != len(want) {
		t.Fatalf("%d places, want %d", known.Places(), len(want))
	}
	for place := range min(len(want), 20) {
		if got, err := known.Holds(f, place); err != api.OK || got != (want[place] == 'y') {
			t.Fatalf("a table's Holds of %.200s at %d: %v, %v; want %.99s", show(f), place, got, err, want)
		}
	}
	if row, err := known.Row(f); err != api.OK || yn(row) != want {
		t.Fatalf("Row of %.200s: %.99s, %v; want %.99s", show(f), yn(row), err, want)
	}
}

// draw is a source of numbers that are always the same.
type draw uint32

func (d *draw) below(n int) int {
	*d = *d*1664525 + 1013904223
	return int(*d>>8) % n
}

// formula is one of at most that depth over p and q.
func (d *draw) formula(depth int) api.Formula {
	n := d.below(5) * 2 / 3 // 0, 0, 1, 2, 2
	if depth == 1 {
		n = 0
	}
	ops := [][]api.Op{ofNone, ofOne, ofTwo}[n]
	f := op(ops[d.below(len(ops))])
	if n == 0 && d.below(4) > 0 {
		f = prop(pq()[d.below(2)])
	} else if f.Op == api.OpProp {
		f.Name = "p"
	}
	for range n {
		f.Kids = append(f.Kids, d.formula(depth-1))
	}
	return f
}

// smallFormulas are all of depth 1 and 2 over p and q.
func smallFormulas() []api.Formula {
	leaves := []api.Formula{op(api.OpTrue), op(api.OpFalse), prop("p"), prop("q")}
	list := slices.Clone(leaves)
	for _, g := range leaves {
		for _, o := range ofOne {
			list = append(list, op(o, g))
		}
		for _, h := range leaves {
			for _, o := range ofTwo {
				list = append(list, op(o, g, h))
			}
		}
	}
	return list
}

// someFormulas are some that stand deeper.
func someFormulas(n, depth int) []api.Formula {
	d := draw(n)
	var list []api.Formula
	for len(list) < n {
		if f := d.formula(depth); len(f.Kids) > 0 {
			list = append(list, f)
		}
	}
	return list
}

// written are all ways to write words over so many names with at most so many places, normal or not.
func written(props, size int) iter.Seq[api.Word] {
	return func(yield func(api.Word) bool) {
		for places := 1; places <= size; places++ {
			for n := range 1 << (props * places) {
				var row []uint16
				for i := range places {
					row = append(row, uint16(n>>(props*i))&(1<<props-1))
				}
				for stem := range places {
					if !yield(api.Word{Stem: slices.Clone(row[:stem]), Loop: slices.Clone(row[stem:])}) {
						return
					}
				}
			}
		}
	}
}

// someWords are some longer ones over two names, normal or not.
func someWords(n int) []api.Word {
	d := draw(n)
	var list []api.Word
	for range n {
		var w api.Word
		for range d.below(8) {
			w.Stem = append(w.Stem, uint16(d.below(4)))
		}
		for range 1 + d.below(7) {
			w.Loop = append(w.Loop, uint16(d.below(4)))
		}
		list = append(list, w)
	}
	return list
}
