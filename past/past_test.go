package past_test

import (
	"fmt"
	"iter"
	"slices"
	"testing"

	"augur/api"
	"augur/past"
	"augur/syntax"
)

// The calls as the chapter lists them.
var (
	_ func(api.Formula, []string, ...uint16) (bool, api.Errno) = past.Holds
	_ func(api.Formula, []string) (*past.Watch, api.Errno)     = past.New
	_ func(*past.Watch, uint16) (bool, api.Errno)              = (*past.Watch).Step
	_ func(*past.Watch) int                                    = (*past.Watch).Bits
	_ func(*past.Watch)                                        = (*past.Watch).Reset
	_ func([]string, ...api.Define) (*past.Book, error)        = past.NewBook
	_ func(*past.Book) []string                                = (*past.Book).Names
	_ func(*past.Book, ...string) []string                     = (*past.Book).Step
	_ func(*past.Book)                                         = (*past.Book).Reset
)

func prop(name string) api.Formula                 { return api.Formula{Op: api.OpProp, Name: name} }
func op(o api.Op, kids ...api.Formula) api.Formula { return api.Formula{Op: o, Kids: kids} }

var (
	ofNone   = []api.Op{api.OpTrue, api.OpFalse, api.OpProp}
	ofOne    = []api.Op{api.OpNot, api.OpYest, api.OpWeakYest, api.OpOnce, api.OpHist}
	ofTwo    = []api.Op{api.OpAnd, api.OpOr, api.OpImp, api.OpIff, api.OpSince, api.OpTrig}
	ofFuture = []api.Op{api.OpNext, api.OpEvent, api.OpAlways, api.OpUntil, api.OpRelease, api.OpWeak, api.OpStrong}
)

func pq() []string { return []string{"p", "q"} }

func greatest() api.Limits {
	return api.Limits{Text: api.MaxText, Nodes: api.MaxNodes, Depth: api.MaxDepth, Props: api.MaxProps}
}

// read is the formula of a text.
func read(text string) api.Formula {
	f, err := syntax.ParsePast(text, greatest())
	if err != nil {
		panic(text + ": " + err.Error())
	}
	return f
}

// show is a text that tells a tree from all others.
func show(f api.Formula) string {
	s := fmt.Sprintf("%d%q(", f.Op, f.Name)
	for _, kid := range f.Kids {
		s += show(kid)
	}
	return s + ")"
}

// told is a formula's text, if it has one.
func told(f api.Formula) string {
	if text, err := syntax.Print(f); err == api.OK {
		return text
	}
	return show(f)
}

// row is o so many times in a row, ahead of f.
func row(n int, o api.Op, f api.Formula) api.Formula {
	for range n {
		f = op(o, f)
	}
	return f
}

// spread has n leaves and one less over them, and no great depth.
func spread(o api.Op, n int, leaf api.Formula) api.Formula {
	if n == 1 {
		return leaf
	}
	return op(o, spread(o, n/2, leaf), spread(o, n-n/2, leaf))
}

// draw is a source of numbers that are always the same.
type draw uint32

func (d *draw) below(n int) int {
	*d = *d*1664525 + 1013904223
	return int(*d>>8) % n
}

// formula is one of at most that depth over those names.
func (d *draw) formula(depth int, names ...string) api.Formula {
	n := d.below(5) * 2 / 3 // 0, 0, 1, 2, 2
	if depth == 1 {
		n = 0
	}
	f := op([][]api.Op{ofNone[:2], ofOne, ofTwo}[n][d.below([]int{2, len(ofOne), len(ofTwo)}[n])])
	if n == 0 && len(names) > 0 && d.below(8) > 0 {
		f = prop(names[d.below(len(names))])
	}
	for range n {
		f.Kids = append(f.Kids, d.formula(depth-1, names...))
	}
	return f
}

// letters are so many over so many names.
func (d *draw) letters(n, names int) []uint16 {
	list := make([]uint16, n)
	for i := range list {
		list[i] = uint16(d.below(1 << names))
	}
	return list
}

// someFormulas are some over p and q that stand deeper.
func someFormulas(n, depth int) []api.Formula {
	d := draw(n)
	var list []api.Formula
	for len(list) < n {
		if f := d.formula(depth, pq()...); len(f.Kids) > 0 {
			list = append(list, f)
		}
	}
	return list
}

// over are all formulas that an operator has over those.
func over(kids []api.Formula) []api.Formula {
	var list []api.Formula
	for _, g := range kids {
		for _, o := range ofOne {
			list = append(list, op(o, g))
		}
		for _, h := range kids {
			for _, o := range ofTwo {
				list = append(list, op(o, g, h))
			}
		}
	}
	return list
}

// small are all of depth 1 and 2 over p and q, and what each operator is of those and a few others.
func small() []api.Formula {
	few := []api.Formula{op(api.OpTrue), op(api.OpFalse), prop("p"), prop("q")}
	for _, text := range []string{"!p", "Y p", "Z q", "O p", "H q", "p & q", "p S q", "q T p", "Y Y p"} {
		few = append(few, read(text))
	}
	return append(few, over(few)...)
}

// rows are all rows of letters over so many names, of 1 to so many letters.
func rows(names, most int) iter.Seq[[]uint16] {
	return func(yield func([]uint16) bool) {
		var grow func(u []uint16) bool
		grow = func(u []uint16) bool {
			if len(u) > 0 && !yield(u) {
				return false
			}
			for letter := range 1 << names {
				if len(u) < most && !grow(append(slices.Clone(u), uint16(letter))) {
					return false
				}
			}
			return true
		}
		grow(nil)
	}
}

// watch wants one.
func watch(t *testing.T, f api.Formula, names []string) *past.Watch {
	t.Helper()
	w, err := past.New(f, names)
	if err != api.OK || w == nil {
		t.Fatalf("New of %.300s over %q: %v", told(f), names, err)
	}
	return w
}

// wantSteps wants these answers of a watch.
func wantSteps(t *testing.T, w *past.Watch, f api.Formula, u []uint16, want []bool) {
	t.Helper()
	for i, letter := range u {
		if got, err := w.Step(letter); err != api.OK || got != want[i] {
			t.Fatalf("%.300s by %v, step %d: %v, %v", told(f), u, i, got, err)
		}
	}
}

// wantHolds wants these answers of Holds, behind each letter.
func wantHolds(t *testing.T, f api.Formula, names []string, u []uint16, want []bool) {
	t.Helper()
	for i := range u {
		if got, err := past.Holds(f, names, u[:i+1]...); err != api.OK || got != want[i] {
			t.Fatalf("%.300s by %v: %v, %v", told(f), u[:i+1], got, err)
		}
	}
}

// byRule is of each place, from 0 to n - 1, whether f holds there, as the chapter's tables say it; is tells whether a name is so at a place.
func byRule(f api.Formula, n int, is func(name string, i int) bool) []bool {
	kids := [2][]bool{}
	for k, kid := range f.Kids {
		kids[k] = byRule(kid, n, is)
	}
	list := make([]bool, n)
	for i := range list {
		list[i] = holdsAt(f, kids[0], kids[1], i, is)
	}
	return list
}

func holdsAt(f api.Formula, g, h []bool, i int, is func(string, int) bool) bool {
	each := func(row []bool, from int) bool { return !slices.Contains(row[from:i+1], false) } // from .. to i
	some := func(at func(j int) bool) bool { return slices.ContainsFunc(upTo(i), at) }
	switch f.Op {
	case api.OpTrue, api.OpFalse:
		return f.Op == api.OpTrue
	case api.OpProp:
		return is(f.Name, i)
	case api.OpNot:
		return !g[i]
	case api.OpAnd:
		return g[i] && h[i]
	case api.OpOr:
		return g[i] || h[i]
	case api.OpImp:
		return !g[i] || h[i]
	case api.OpIff:
		return g[i] == h[i]
	case api.OpYest:
		return i > 0 && g[i-1]
	case api.OpWeakYest:
		return i == 0 || g[i-1]
	case api.OpOnce:
		return some(func(j int) bool { return g[j] })
	case api.OpHist:
		return each(g, 0)
	case api.OpSince:
		return some(func(j int) bool { return h[j] && each(g, j+1) })
	case api.OpTrig:
		return each(h, 0) || some(func(j int) bool { return g[j] && each(h, j) })
	}
	panic("no operator of the past")
}

// upTo are the numbers from 0 to i.
func upTo(i int) []int {
	list := make([]int, i+1)
	for j := range list {
		list[j] = j
	}
	return list
}

// byLetters is byRule of a row of letters.
func byLetters(f api.Formula, names []string, u []uint16) []bool {
	return byRule(f, len(u), func(name string, i int) bool { return u[i]>>slices.Index(names, name)&1 == 1 })
}
