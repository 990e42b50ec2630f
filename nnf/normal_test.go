package nnf_test

import (
	"slices"
	"strings"
	"testing"

	"augur/api"
	"augur/nnf"
	"augur/tree"
)

func TestNormalExamples(t *testing.T) {
	for _, c := range [][3]string{
		{"!(a U X !b)", "!a R X b", "a U X !b"},
		{"G (a -> F b)", "false R (!a | true U b)", "true U (a & false R !b)"},
		{"a W b", "b R (a | b)", "!b U (!a & !b)"},
		{"a", "a", "!a"}, {"!a", "!a", "a"}, {"!!a", "a", "!a"}, {"!!!a", "!a", "a"}, {"true", "true", "false"}, {"false", "false", "true"}, {"!true", "false", "true"}, {"!!false", "false", "true"},
		{"a & b", "a & b", "!a | !b"}, {"a | b", "a | b", "!a & !b"}, {"a -> b", "!a | b", "a & !b"}, {"a <-> b", "(a & b) | (!a & !b)", "(a & !b) | (!a & b)"},
		{"X a", "X a", "X !a"}, {"F a", "true U a", "false R !a"}, {"G a", "false R a", "true U !a"}, {"a U b", "a U b", "!a R !b"}, {"a R b", "a R b", "!a U !b"}, {"a M b", "b U (a & b)", "!b R (!a | !b)"},
		{"!(a -> b)", "a & !b", "!a | b"}, {"!(a W b)", "!b U (!a & !b)", "b R (a | b)"}, {"!X F a", "X (false R !a)", "X (true U a)"}, {"(a <-> b) <-> c", "((a & b | !a & !b) & c) | ((a & !b | !a & b) & !c)", "((a & b | !a & !b) & !c) | ((a & !b | !a & b) & c)"},
		{"true & a", "true & a", "false | !a"}, {"a & a", "a & a", "!a | !a"}, {"b & a", "b & a", "!b | !a"}, // it is no simpler form
	} {
		want(t, nnf.Normal, read(c[0]), read(c[1]))
		want(t, nnf.Dual, read(c[0]), read(c[2]))
	}
}

// The chapter's table as texts: Na is N(a).
var columns = map[api.Op][2]string{
	api.OpTrue: {"true", "false"}, api.OpFalse: {"false", "true"}, api.OpNot: {"Da", "Na"},
	api.OpAnd: {"Na & Nb", "Da | Db"}, api.OpOr: {"Na | Nb", "Da & Db"}, api.OpImp: {"Da | Nb", "Na & Db"}, api.OpIff: {"(Na & Nb) | (Da & Db)", "(Na & Db) | (Da & Nb)"},
	api.OpNext: {"X Na", "X Da"}, api.OpEvent: {"true U Na", "false R Da"}, api.OpAlways: {"false R Na", "true U Da"}, api.OpUntil: {"Na U Nb", "Da R Db"}, api.OpRelease: {"Na R Nb", "Da U Db"},
	api.OpWeak: {"Nb R (Na | Nb)", "Db U (Da & Db)"}, api.OpStrong: {"Nb U (Na & Nb)", "Db R (Da | Db)"},
}

// byTable is N of f (column 0) or D of it, made by the texts.
func byTable(f api.Formula, column int) api.Formula {
	if f.Op == api.OpProp {
		return []api.Formula{f, op(api.OpNot, f)}[column]
	}
	return filled(read(columns[f.Op][column]), f)
}

// filled is a text's formula, in which N and D of the kids of f stand.
func filled(text, f api.Formula) api.Formula {
	if text.Op == api.OpProp {
		return byTable(f.Kids[strings.Index("ab", text.Name[1:])], strings.Index("ND", text.Name[:1]))
	}
	made := op(text.Op)
	for _, kid := range text.Kids {
		made.Kids = append(made.Kids, filled(kid, f))
	}
	return made
}

func TestNormalByTheTable(t *testing.T) {
	for _, f := range append(small(), someFormulas(3000, 6)...) {
		want(t, nnf.Normal, f, byTable(f, 0))
		want(t, nnf.Dual, f, byTable(f, 1))
	}
}

// Forms of forms.
func TestFormsOfForms(t *testing.T) {
	for _, f := range append(small(), someFormulas(3000, 6)...) {
		n, d := answer(t, nnf.Normal, f), answer(t, nnf.Dual, f)
		want(t, nnf.Normal, n, n)
		want(t, nnf.Normal, d, d)
		want(t, nnf.Normal, op(api.OpNot, f), d)
		want(t, nnf.Dual, op(api.OpNot, f), n)
		if !nnf.Is(n) || !nnf.Is(d) {
			t.Errorf("%s: %s, %s", told(f), told(n), told(d))
		}
		if sortedNames(n) != sortedNames(f) || sortedNames(d) != sortedNames(f) {
			t.Errorf("%s: the names %s, %s", told(f), sortedNames(n), sortedNames(d))
		}
		if !slices.ContainsFunc(tree.Subs(f), func(part api.Formula) bool { return part.Op == api.OpIff }) {
			want(t, nnf.Dual, d, n)
		}
	}
}

// Of a <-> Dual of Dual may be another one than Normal.
func TestDualOfDualOfIff(t *testing.T) {
	want(t, nnf.Dual, answer(t, nnf.Dual, read("a <-> b")), read("(!a | b) & (a | !b)"))
}

// isByOps says it by what stands in f.
func isByOps(f api.Formula) bool {
	for _, part := range tree.All(f) {
		switch part.Op {
		case api.OpImp, api.OpIff, api.OpEvent, api.OpAlways, api.OpWeak, api.OpStrong:
			return false
		case api.OpNot:
			if part.Kids[0].Op != api.OpProp {
				return false
			}
		}
	}
	return true
}

func TestIs(t *testing.T) {
	for _, text := range []string{"a", "!a", "true", "false", "a & !b", "!a | X !b", "a U (b R !c)", "true U a", "false R a", "a & a", "b & a", "true & a", "X true", "X (a R b)"} {
		if !nnf.Is(read(text)) {
			t.Errorf("%s", text)
		}
	}
	for _, text := range []string{"!!a", "!true", "!false", "!(a & b)", "!X a", "a -> b", "a <-> b", "F a", "G a", "a W b", "a M b", "a & F b", "X !!a", "a U (b R !(c | d))", "F a & b", "!a U !X b"} {
		if nnf.Is(read(text)) {
			t.Errorf("%s", text)
		}
	}
	for _, f := range append(small(), someFormulas(3000, 5)...) {
		n, err := nnf.Normal(f)
		if nnf.Is(f) != isByOps(f) || nnf.Is(f) != (err == api.OK && same(n, f)) {
			t.Errorf("%s: %v", told(f), nnf.Is(f))
		}
	}
}

// Just 1000 nodes and a depth of just 100 are in; one more is not.
func TestNormalWithinTheBounds(t *testing.T) {
	p, q := prop("p"), prop("q")
	full := op(api.OpNot, spread(api.OpAnd, 500, p)) // 1000
	// N: 500 times !p and 499 times | are too many, D is 999.
	wantNone(t, nnf.Normal, full, api.ErrTreeBig)
	want(t, nnf.Dual, full, spread(api.OpAnd, 500, p))
	wantNone(t, nnf.Dual, spread(api.OpAnd, 500, p), api.ErrTreeBig)
	want(t, nnf.Normal, op(api.OpNext, spread(api.OpUntil, 500, p)), op(api.OpNext, spread(api.OpUntil, 500, p)))
	// !p 333 times, and & once less: 998.
	bare, denied := spread(api.OpOr, 333, p), spread(api.OpAnd, 333, op(api.OpNot, p))
	want(t, nnf.Dual, bare, denied)
	want(t, nnf.Dual, row(2, api.OpNext, bare), row(2, api.OpNext, denied))
	wantNone(t, nnf.Dual, row(3, api.OpNext, bare), api.ErrTreeBig)
	// F and G bring one more along, W and M two and their second kid.
	want(t, nnf.Normal, op(api.OpEvent, spread(api.OpOr, 499, q)), op(api.OpUntil, op(api.OpTrue), spread(api.OpOr, 499, q)))
	wantNone(t, nnf.Normal, op(api.OpAlways, spread(api.OpOr, 500, q)), api.ErrTreeBig)
	many := spread(api.OpOr, 249, q) // 497
	weak := op(api.OpWeak, row(3, api.OpNext, p), many)
	want(t, nnf.Normal, weak, op(api.OpRelease, many, op(api.OpOr, row(3, api.OpNext, p), many)))
	if n := answer(t, nnf.Normal, weak); tree.Size(n) != 1000 {
		t.Errorf("%d nodes", tree.Size(n))
	}
	wantNone(t, nnf.Normal, op(api.OpWeak, row(4, api.OpNext, p), many), api.ErrTreeBig)
	wantNone(t, nnf.Normal, op(api.OpStrong, row(4, api.OpNext, p), many), api.ErrTreeBig)
	want(t, nnf.Normal, op(api.OpStrong, row(3, api.OpNext, p), many), op(api.OpUntil, many, op(api.OpAnd, row(3, api.OpNext, p), many)))
}

func TestNormalWithinTheDepth(t *testing.T) {
	p, q := prop("p"), prop("q")
	deep := func(n int) api.Formula { return row(n, api.OpNext, p) } // n + 1 deep
	want(t, nnf.Normal, deep(99), deep(99))
	wantNone(t, nnf.Dual, deep(99), api.ErrTreeBig)
	want(t, nnf.Dual, deep(98), row(98, api.OpNext, op(api.OpNot, p)))
	want(t, nnf.Normal, op(api.OpEvent, deep(98)), op(api.OpUntil, op(api.OpTrue), deep(98)))
	wantNone(t, nnf.Dual, op(api.OpEvent, deep(98)), api.ErrTreeBig)
	want(t, nnf.Normal, op(api.OpWeak, deep(97), q), op(api.OpRelease, q, op(api.OpOr, deep(97), q)))
	wantNone(t, nnf.Normal, op(api.OpWeak, deep(98), q), api.ErrTreeBig)
	wantNone(t, nnf.Normal, op(api.OpWeak, q, deep(98)), api.ErrTreeBig)
	wantNone(t, nnf.Normal, op(api.OpStrong, deep(98), q), api.ErrTreeBig)
	wantNone(t, nnf.Normal, op(api.OpIff, deep(97), q), api.ErrTreeBig)
	if n := answer(t, nnf.Normal, op(api.OpIff, deep(96), q)); tree.Depth(n) != 100 {
		t.Errorf("depth %d", tree.Depth(n))
	}
	want(t, nnf.Normal, row(99, api.OpNot, p), op(api.OpNot, p))
	want(t, nnf.Dual, row(99, api.OpNot, p), p)
	want(t, nnf.Normal, row(98, api.OpNot, p), p)
	// A W in a row, on the left, comes to twice its depth.
	left := p
	for range 49 {
		left = op(api.OpWeak, left, q)
	}
	if n := answer(t, nnf.Normal, left); tree.Depth(n) != 99 || tree.Size(n) != 197 {
		t.Errorf("depth %d, %d nodes", tree.Depth(n), tree.Size(n))
	}
	wantNone(t, nnf.Normal, op(api.OpWeak, left, q), api.ErrTreeBig)
	want(t, nnf.Dual, left, byTable(left, 1))
	wantNone(t, nnf.Dual, op(api.OpNext, left), api.ErrTreeBig)
}

// wantTooGreat wants both forms of f refused.
func wantTooGreat(t *testing.T, f api.Formula) {
	t.Helper()
	wantNone(t, nnf.Normal, f, api.ErrTreeBig)
	wantNone(t, nnf.Dual, f, api.ErrTreeBig)
	if nnf.Is(f) {
		t.Errorf("Is of %.200s", told(f))
	}
}

// Example 3; and such whose forms, made, would have more than 2^90 nodes, wherever they stand.
func TestFarTooGreat(t *testing.T) {
	for n := 10; n < 95; n++ {
		left, right, weak, strong := prop("p"), prop("p"), prop("p"), prop("p")
		for range n {
			left, right = op(api.OpIff, left, prop("q")), op(api.OpIff, prop("q"), right)
			weak, strong = op(api.OpWeak, prop("q"), weak), op(api.OpStrong, prop("q"), strong)
		}
		for _, f := range []api.Formula{left, right, weak, strong} {
			wantTooGreat(t, f)
			for _, around := range over([]api.Formula{f})[:4] {
				wantTooGreat(t, around)
			}
			for _, o := range ofTwo {
				wantTooGreat(t, op(o, f, prop("q")))
				wantTooGreat(t, op(o, prop("q"), f))
			}
		}
	}
}

// counted is how great and how deep N of f (column 0) and D of it are, by the texts; they are not made.
func counted(f api.Formula) (sizes [2]float64, depths [2]int) {
	if f.Op == api.OpProp {
		return [2]float64{1, 2}, [2]int{1, 2}
	}
	var kidSizes [2][2]float64
	var kidDepths [2][2]int
	for i, kid := range f.Kids {
		kidSizes[i], kidDepths[i] = counted(kid)
	}
	for column, text := range columns[f.Op] {
		for path, part := range tree.All(read(text)) {
			above := (len(path) + 1) / 2
			if part.Op == api.OpProp {
				kid, which := strings.Index("ab", part.Name[1:]), strings.Index("ND", part.Name[:1])
				sizes[column] += kidSizes[kid][which]
				depths[column] = max(depths[column], above+kidDepths[kid][which])
			} else {
				sizes[column]++
				depths[column] = max(depths[column], above+1)
			}
		}
	}
	return sizes, depths
}

// thick are formulas whose forms are about as great as a form may be.
func thick(n int) []api.Formula {
	d := draw(1)
	growing := append([]api.Op{api.OpIff, api.OpWeak, api.OpStrong}, ofTwo...)
	var list []api.Formula
	for len(list) < n {
		f := d.formula(4)
		for range 4 + d.below(9) {
			f = op(growing[d.below(len(growing))], d.formula(3), op(ofOne[d.below(len(ofOne))], f))
			if d.below(4) == 0 {
				f.Kids[0], f.Kids[1] = f.Kids[1], f.Kids[0]
			}
		}
		if tree.Right(f) == api.OK {
			list = append(list, f)
		}
	}
	return list
}

// An error just if the form is too great, and else the form, of that count.
func TestBoundsByCount(t *testing.T) {
	seen := map[api.Errno]int{}
	for _, f := range thick(1500) {
		sizes, depths := counted(f)
		for column, call := range []func(api.Formula) (api.Formula, api.Errno){nnf.Normal, nnf.Dual} {
			if sizes[column] > 1000 || depths[column] > 100 {
				wantNone(t, call, f, api.ErrTreeBig)
				seen[api.ErrTreeBig]++
				continue
			}
			if form := answer(t, call, f); float64(tree.Size(form)) != sizes[column] || tree.Depth(form) != depths[column] {
				t.Errorf("%s: %s", told(f), told(form))
			}
			seen[api.OK]++
		}
	}
	if seen[api.OK] < 500 || seen[api.ErrTreeBig] < 500 {
		t.Errorf("%v", seen)
	}
}
