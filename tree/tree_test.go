package tree_test

import (
	"fmt"
	"iter"
	"slices"
	"testing"

	"augur/api"
	"augur/tree"
)

// The calls as the chapter lists them.
var (
	_ func(api.Formula) api.Errno                                            = tree.Right
	_ func(api.Formula) api.Errno                                            = tree.RightPast
	_ func(api.Formula) int                                                  = tree.Size
	_ func(api.Formula) int                                                  = tree.Depth
	_ func(api.Formula) []string                                             = tree.Names
	_ func(a, b api.Formula) int                                             = tree.Cmp
	_ func(api.Formula) api.Formula                                          = tree.Copy
	_ func(api.Formula) []api.Formula                                        = tree.Subs
	_ func(api.Formula, string, api.Formula) (api.Formula, api.Errno)        = tree.Put
	_ func(f api.Formula, from, to []string) (api.Formula, api.Errno)        = tree.Rename
	_ func(api.Formula) iter.Seq2[string, api.Formula]                       = tree.All
	_ func(f api.Formula, path string) (part api.Formula, failure api.Errno) = tree.At
)

// Those that have so many kids, as the chapter lists them.
var (
	ofNone = []api.Op{api.OpTrue, api.OpFalse, api.OpProp}
	ofOne  = []api.Op{api.OpNot, api.OpNext, api.OpEvent, api.OpAlways, api.OpYest, api.OpWeakYest, api.OpOnce, api.OpHist}
	ofTwo  = []api.Op{api.OpAnd, api.OpOr, api.OpImp, api.OpIff, api.OpUntil, api.OpRelease, api.OpWeak, api.OpStrong, api.OpSince, api.OpTrig}
)

// Those that are of one time alone.
var (
	ofFuture = []api.Op{api.OpNext, api.OpEvent, api.OpAlways, api.OpUntil, api.OpRelease, api.OpWeak, api.OpStrong}
	ofPast   = []api.Op{api.OpYest, api.OpWeakYest, api.OpOnce, api.OpHist, api.OpSince, api.OpTrig}
)

func op(o api.Op, kids ...api.Formula) api.Formula { return api.Formula{Op: o, Kids: kids} }
func prop(name string) api.Formula                 { return api.Formula{Op: api.OpProp, Name: name} }
func not(f api.Formula) api.Formula                { return op(api.OpNot, f) }
func next(f api.Formula) api.Formula               { return op(api.OpNext, f) }
func and(f, g api.Formula) api.Formula             { return op(api.OpAnd, f, g) }

var p, q = prop("p"), prop("q")

// example is the chapter's: p U (q & X p).
func example() api.Formula { return op(api.OpUntil, p, and(q, next(p))) }

// row is o so many times in a row, ahead of f.
func row(n int, o api.Op, f api.Formula) api.Formula {
	for range n {
		f = op(o, f)
	}
	return f
}

// spread has n leaves and one less over them, and no great depth.
func spread(n int, leaf api.Formula) api.Formula {
	if n == 1 {
		return leaf
	}
	return and(spread(n/2, leaf), spread(n-n/2, leaf))
}

// text tells a tree apart from all others.
func text(f api.Formula) string {
	s := fmt.Sprintf("%d%q(", f.Op, f.Name)
	for _, kid := range f.Kids {
		s += text(kid)
	}
	return s + ")"
}

func same(f, g api.Formula) bool { return text(f) == text(g) }

// pieces are what stands in f, found in another way than the program's.
func pieces(f api.Formula) []api.Formula {
	list := []api.Formula{f}
	for _, kid := range f.Kids {
		list = append(list, pieces(kid)...)
	}
	return list
}

// oddities are trees of which some are formulas, some are not.
func oddities() []api.Formula {
	return []api.Formula{
		{}, op(api.OpTrue), op(api.OpFalse), p, q, prop(""), prop(`a"b`), op(255), op(api.OpTrig + 1), {Name: "p"},
		{Op: api.OpTrue, Name: "p"}, {Op: api.OpNot, Name: "p", Kids: []api.Formula{p}}, {Op: api.OpProp, Name: "p", Kids: []api.Formula{q, p}},
		op(api.OpAnd), op(api.OpAnd, p), and(p, p), and(p, q), and(q, p), op(api.OpAnd, p, q, p), op(api.OpTrue, p),
		next(p), next(next(p)), not(prop("r")), op(api.OpYest, p), and(next(p), op(api.OpYest, p)), op(api.OpSince, p, q),
		example(), and(example(), example()), op(0, example(), api.Formula{}, next(example())), row(40, api.OpNot, p), spread(50, not(q)),
		op(77, slices.Repeat([]api.Formula{p, next(q)}, 60)...), {Op: api.OpOr, Kids: []api.Formula{}}, and(op(api.OpAnd, p), op(api.OpAnd, p, op(0))),
	}
}

// draw is a source of numbers that are always the same.
type draw uint32

func (d *draw) below(n int) int {
	*d = *d*1664525 + 1013904223
	return int(*d>>8) % n
}

// tree is any tree of some depth, which keeps to no rule.
func (d *draw) tree(depth int) api.Formula {
	names := []string{"", "p", "q", "q ", "r\n"}
	f := api.Formula{Op: api.Op(d.below(24)), Name: names[d.below(len(names))]}
	if depth > 1 {
		for range d.below(4) {
			f.Kids = append(f.Kids, d.tree(depth-1))
		}
	}
	return f
}

// formula is a well formed tree of those Ops that pass.
func (d *draw) formula(depth int, passes func(api.Op) bool) api.Formula {
	ops := [][]api.Op{ofNone, ofOne, ofTwo}
	n := d.below(3)
	if depth == 1 {
		n = 0
	}
	o := ops[n][d.below(len(ops[n]))]
	for !passes(o) {
		o = ops[n][d.below(len(ops[n]))]
	}
	f := api.Formula{Op: o}
	if o == api.OpProp {
		f.Name = string(rune('p' + d.below(3)))
	}
	for range n {
		f.Kids = append(f.Kids, d.formula(depth-1, passes))
	}
	return f
}

func anyOp(api.Op) bool      { return true }
func futureOp(o api.Op) bool { return !slices.Contains(ofPast, o) }
func pastOp(o api.Op) bool   { return !slices.Contains(ofFuture, o) }
func someTrees() []api.Formula {
	list := oddities()
	d := draw(1)
	for range 300 {
		list = append(list, d.tree(4), d.formula(5, anyOp), d.formula(5, futureOp), d.formula(5, pastOp))
	}
	return list
}

// memory is all lists that were seen, with the room behind them.
type memory map[*api.Formula]string

// own fails, if a list of f shares memory with one that was seen.
func (m memory) own(t *testing.T, who string, f api.Formula) {
	t.Helper()
	for i := range f.Kids[:cap(f.Kids)] {
		at := &f.Kids[:cap(f.Kids)][i]
		if other, seen := m[at]; seen {
			t.Fatalf("%s shares memory with %s", who, other)
		}
		m[at] = who
	}
	for _, kid := range f.Kids {
		m.own(t, who, kid)
	}
}

// spoil changes all that f has, down to its last list.
func spoil(f api.Formula) {
	for i := range f.Kids {
		spoil(f.Kids[i])
		f.Kids[i] = api.Formula{Op: 99, Name: "spoilt"}
	}
}

// R2 of all calls: what comes out shares nothing, with what was handed in or with one another.
func TestNewMemory(t *testing.T) {
	f, by := and(example(), not(example())), op(api.OpOr, p, not(q))
	before, beforeBy := text(f), text(by)
	seen := memory{}
	// The parts of f share p's lists with none: they have none.
	seen.own(t, "f", f)
	seen.own(t, "by", by)
	for range 2 {
		seen.own(t, "Copy", tree.Copy(f))
		for _, sub := range tree.Subs(f) {
			seen.own(t, "Subs", sub)
		}
		put, _ := tree.Put(f, "p", by)
		seen.own(t, "Put", put)
		put, _ = tree.Put(f, "r", by)
		seen.own(t, "Put of a name that it lacks", put)
		renamed, _ := tree.Rename(f, []string{"p"}, []string{"r"})
		seen.own(t, "Rename", renamed)
		renamed, _ = tree.Rename(f, nil, nil)
		seen.own(t, "Rename of nothing", renamed)
		for path, part := range tree.All(f) {
			seen.own(t, "All", part)
			at, _ := tree.At(f, path)
			seen.own(t, "At", at)
		}
		all := tree.All(f)
		for range 2 {
			for _, part := range all {
				seen.own(t, "All, ranged over again", part)
			}
		}
	}
	if text(f) != before || text(by) != beforeBy {
		t.Error("what was handed in has changed")
	}
}

// R2 of lists of texts.
func TestNamesAreNewMemory(t *testing.T) {
	f := example()
	one := tree.Names(f)
	one[0], one[1] = "x", "y"
	_ = append(one, "z")
	if two := tree.Names(f); !slices.Equal(two, []string{"p", "q"}) || text(f) != text(example()) {
		t.Error(two)
	}
	from, to := []string{"p", "q", "x"}[:2], []string{"q", "p", "y"}[:2]
	renamed, _ := tree.Rename(f, from, to)
	if !slices.Equal(from[:3], []string{"p", "q", "x"}) || !slices.Equal(to[:3], []string{"q", "p", "y"}) {
		t.Error(from, to)
	}
	from[0], to[0] = "spoilt", "spoilt"
	if !slices.Equal(tree.Names(renamed), []string{"q", "p"}) {
		t.Error(tree.Names(renamed))
	}
}

// R6: a list that is nil is an empty one.
func TestNilAndEmpty(t *testing.T) {
	none, empty := prop("p"), api.Formula{Op: api.OpProp, Name: "p", Kids: []api.Formula{}}
	if tree.Cmp(none, empty) != 0 || tree.Cmp(next(none), next(empty)) != 0 || tree.Right(empty) != api.OK || tree.RightPast(empty) != api.OK {
		t.Error("a list that is empty")
	}
	if l := tree.Subs(and(none, empty)); len(l) != 2 {
		t.Error(l)
	}
	if f, err := tree.Put(empty, "p", q); err != api.OK || !same(f, q) {
		t.Error(f, err)
	}
	for _, lists := range [][2][]string{{nil, {}}, {{}, nil}, {nil, nil}, {{}, {}}} {
		if f, err := tree.Rename(example(), lists[0], lists[1]); err != api.OK || !same(f, example()) {
			t.Error(f, err)
		}
	}
	if len(tree.Names(op(api.OpTrue))) != 0 {
		t.Error("names of true")
	}
}
