package nnf_test

import (
	"testing"

	"augur/api"
	"augur/nnf"
	"augur/tree"
)

func TestSimpleExamples(t *testing.T) {
	for _, c := range [][2]string{
		{"true U (a & true)", "F a"}, {"F G F p", "G F p"}, {"b & a", "a & b"}, {"(a | b) & a", "a"}, {"a -> false", "!a"}, {"!a -> false", "a"}, {"a W false", "G a"},
		{"true", "true"}, {"false", "false"}, {"a", "a"},
		{"!true", "false"}, {"!false", "true"}, {"!!a", "a"}, {"!a", "!a"}, {"!!!a", "!a"}, {"!(a & b)", "!(a & b)"},
		{"a & false", "false"}, {"false & a", "false"}, {"true & a", "a"}, {"a & true", "a"}, {"a & a", "a"}, {"a & !a", "false"}, {"!a & a", "false"}, {"(b | a) & a", "a"}, {"a & (a | b)", "a"}, {"a & (b | a)", "a"}, {"a & b", "a & b"}, {"X a & b", "b & X a"}, {"(a & b) & a", "a & (a & b)"},
		{"a | true", "true"}, {"true | a", "true"}, {"false | a", "a"}, {"a | false", "a"}, {"a | a", "a"}, {"a | !a", "true"}, {"!a | a", "true"}, {"(a & b) | a", "a"}, {"(b & a) | a", "a"}, {"a | (a & b)", "a"}, {"a | (b & a)", "a"}, {"b | a", "a | b"}, {"a | b", "a | b"}, {"(a | b) | a", "a | (a | b)"},
		{"false -> a", "true"}, {"a -> true", "true"}, {"true -> a", "a"}, {"a -> a", "true"}, {"a -> b", "a -> b"}, {"b -> a", "b -> a"}, {"a -> !a", "a -> !a"}, {"true -> false", "false"}, {"false -> false", "true"},
		{"true <-> a", "a"}, {"a <-> true", "a"}, {"false <-> a", "!a"}, {"a <-> false", "!a"}, {"false <-> !a", "a"}, {"!a <-> false", "a"}, {"false <-> false", "true"}, {"true <-> false", "false"}, {"a <-> a", "true"}, {"b <-> a", "a <-> b"}, {"a <-> b", "a <-> b"}, {"a <-> !a", "a <-> !a"},
		{"X true", "true"}, {"X false", "false"}, {"X a", "X a"}, {"X X a", "X X a"},
		{"F true", "true"}, {"F false", "false"}, {"F F a", "F a"}, {"F G F a", "G F a"}, {"F G a", "F G a"}, {"F G G a", "F G a"}, {"F a", "F a"},
		{"G true", "true"}, {"G false", "false"}, {"G G a", "G a"}, {"G F G a", "F G a"}, {"G F a", "G F a"}, {"G a", "G a"}, {"G F F a", "G F a"}, {"F F G F G a", "F G a"},
		{"a U true", "true"}, {"a U false", "false"}, {"true U a", "F a"}, {"true U F a", "F a"}, {"true U G F a", "G F a"}, {"false U a", "a"}, {"a U a", "a"}, {"a U F b", "F b"}, {"a U G b", "a U G b"}, {"F b U a", "F b U a"}, {"a U b", "a U b"}, {"b U a", "b U a"},
		{"a R true", "true"}, {"a R false", "false"}, {"false R a", "G a"}, {"false R G a", "G a"}, {"false R F G a", "F G a"}, {"true R a", "a"}, {"a R a", "a"}, {"a R G b", "G b"}, {"a R F b", "a R F b"}, {"G b R a", "G b R a"}, {"a R b", "a R b"}, {"b R a", "b R a"},
		{"true W a", "true"}, {"a W true", "true"}, {"false W a", "a"}, {"a W false", "G a"}, {"G a W false", "G a"}, {"F G a W false", "F G a"}, {"a W a", "a"}, {"a W b", "a W b"}, {"b W a", "b W a"}, {"false W false", "false"}, {"a W F b", "a W F b"}, {"a W G b", "a W G b"},
		{"false M a", "false"}, {"a M false", "false"}, {"true M a", "a"}, {"a M true", "F a"}, {"F a M true", "F a"}, {"G F a M true", "G F a"}, {"a M a", "a"}, {"a M b", "a M b"}, {"b M a", "b M a"}, {"true M true", "true"}, {"a M G b", "a M G b"}, {"a M F b", "a M F b"},
		// What comes of the kids is looked at, not the kids.
		{"X (a & !a)", "false"}, {"(a & true) U !!a", "a"}, {"(b & a) | (a & b)", "a & b"}, {"!(a -> false) & b", "a & b"}, {"(b & a -> false) & (a & b)", "false"}, {"a & !(b | !b | c)", "false"}, {"!!(b | a) & a", "a"}, {"F (a M true)", "F a"}, {"G (true U (false R a))", "F G a"},
	} {
		want(t, nnf.Simple, read(c[0]), read(c[1]))
	}
}

// The chapter's rows as texts: x and y are any formulas, and what stands twice is the same; the first that fits counts. A row ends in ? where the right side's own rows are asked, in < where the kids must be out of order.
var simpleRows = [][3]string{
	{"!true", "false"}, {"!false", "true"}, {"!!x", "x"},
	{"false & x", "false"}, {"x & false", "false"}, {"true & x", "x"}, {"x & true", "x"}, {"x & x", "x"}, {"!x & x", "false"}, {"x & !x", "false"},
	{"(x | y) & x", "x"}, {"(y | x) & x", "x"}, {"x & (x | y)", "x"}, {"x & (y | x)", "x"}, {"x & y", "y & x", "<"},
	{"true | x", "true"}, {"x | true", "true"}, {"false | x", "x"}, {"x | false", "x"}, {"x | x", "x"}, {"!x | x", "true"}, {"x | !x", "true"},
	{"(x & y) | x", "x"}, {"(y & x) | x", "x"}, {"x | (x & y)", "x"}, {"x | (y & x)", "x"}, {"x | y", "y | x", "<"},
	{"false -> x", "true"}, {"x -> true", "true"}, {"true -> x", "x"}, {"x -> false", "!x", "?"}, {"x -> x", "true"},
	{"true <-> x", "x"}, {"x <-> true", "x"}, {"false <-> x", "!x", "?"}, {"x <-> false", "!x", "?"}, {"x <-> x", "true"}, {"x <-> y", "y <-> x", "<"},
	{"X true", "true"}, {"X false", "false"},
	{"F true", "true"}, {"F false", "false"}, {"F F x", "F x"}, {"F G F x", "G F x"},
	{"G true", "true"}, {"G false", "false"}, {"G G x", "G x"}, {"G F G x", "F G x"},
	{"x U true", "true"}, {"x U false", "false"}, {"true U x", "F x", "?"}, {"false U x", "x"}, {"x U x", "x"}, {"x U F y", "F y"},
	{"x R true", "true"}, {"x R false", "false"}, {"false R x", "G x", "?"}, {"true R x", "x"}, {"x R x", "x"}, {"x R G y", "G y"},
	{"true W x", "true"}, {"x W true", "true"}, {"false W x", "x"}, {"x W false", "G x", "?"}, {"x W x", "x"},
	{"false M x", "false"}, {"x M false", "false"}, {"true M x", "x"}, {"x M true", "F x", "?"}, {"x M x", "x"},
}

// fits tells whether f is of a row's left side, and fills in what x and y are.
func fits(left, f api.Formula, are map[string]api.Formula) bool {
	if left.Op == api.OpProp {
		is, known := are[left.Name]
		are[left.Name] = f
		return !known || same(is, f)
	}
	if left.Op != f.Op {
		return false
	}
	for i, kid := range left.Kids {
		if !fits(kid, f.Kids[i], are) {
			return false
		}
	}
	return true
}

// put is a row's right side, in which x and y are those.
func put(right api.Formula, are map[string]api.Formula) api.Formula {
	if right.Op == api.OpProp {
		return are[right.Name]
	}
	made := op(right.Op)
	for _, kid := range right.Kids {
		made.Kids = append(made.Kids, put(kid, are))
	}
	return made
}

type ruled struct {
	left, right api.Formula
	mark        string
}

func rules() []ruled {
	var list []ruled
	for _, texts := range simpleRows {
		list = append(list, ruled{read(texts[0]), read(texts[1]), texts[2]})
	}
	return list
}

// byRows is S of f, by the texts.
func byRows(list []ruled, f api.Formula) api.Formula {
	made := api.Formula{Op: f.Op, Name: f.Name}
	for _, kid := range f.Kids {
		made.Kids = append(made.Kids, byRows(list, kid))
	}
	return topByRows(list, made)
}

// topByRows is the same of an f whose kids are simple already.
func topByRows(list []ruled, f api.Formula) api.Formula {
	for _, r := range list {
		are := map[string]api.Formula{}
		if !fits(r.left, f, are) || r.mark == "<" && tree.Cmp(are["y"], are["x"]) >= 0 {
			continue
		}
		if r.mark == "?" {
			return topByRows(list, put(r.right, are))
		}
		return put(r.right, are)
	}
	return f
}

func TestSimpleByTheRows(t *testing.T) {
	list := rules()
	for _, f := range append(append(small(), someFormulas(5000, 5)...), someFormulas(500, 9)...) {
		if tree.Right(f) == api.OK {
			want(t, nnf.Simple, f, byRows(list, f))
		}
	}
}

// Of forms, too, which have true and false in them.
func TestSimpleOfForms(t *testing.T) {
	list := rules()
	for _, f := range someFormulas(1500, 6) {
		for _, call := range []func(api.Formula) (api.Formula, api.Errno){nnf.Normal, nnf.Dual} {
			form := answer(t, call, f)
			want(t, nnf.Simple, form, byRows(list, form))
		}
	}
}

// What holds: no greater, in Size and in Depth; simple already; no other names.
func TestSimpleIsSimple(t *testing.T) {
	lesser := 0
	for _, f := range append(append(small(), someFormulas(5000, 5)...), someFormulas(500, 9)...) {
		if tree.Right(f) != api.OK {
			continue
		}
		s := answer(t, nnf.Simple, f)
		want(t, nnf.Simple, s, s)
		if tree.Size(s) > tree.Size(f) || tree.Depth(s) > tree.Depth(f) || tree.Right(s) != api.OK {
			t.Errorf("%s: %s", told(f), told(s))
		}
		names := map[string]int{}
		for _, name := range tree.Names(f) {
			names[name] = 1
		}
		for _, name := range tree.Names(s) {
			if names[name] == 0 {
				t.Errorf("%s: %s", told(f), told(s))
			}
		}
		if tree.Size(s) < tree.Size(f) {
			lesser++
		}
	}
	if lesser < 1000 {
		t.Errorf("%d alone are lesser", lesser)
	}
}

// The greatest and the deepest formulas: Simple refuses none of them.
func TestSimpleOfGreatFormulas(t *testing.T) {
	p, q := prop("p"), prop("q")
	want(t, nnf.Simple, row(99, api.OpNext, p), row(99, api.OpNext, p))
	want(t, nnf.Simple, row(99, api.OpNot, p), op(api.OpNot, p))
	want(t, nnf.Simple, row(98, api.OpNot, p), p)
	want(t, nnf.Simple, row(99, api.OpEvent, p), op(api.OpEvent, p))
	want(t, nnf.Simple, row(99, api.OpNext, op(api.OpTrue)), op(api.OpTrue))
	want(t, nnf.Simple, op(api.OpNot, spread(api.OpAnd, 500, p)), op(api.OpNot, p))
	want(t, nnf.Simple, op(api.OpNot, spread(api.OpImp, 500, p)), byRows(rules(), op(api.OpNot, spread(api.OpImp, 500, p))))
	// Long rows of the same on both sides, which are held against each other again and again.
	f := op(api.OpUntil, p, q)
	for range 7 {
		f = op(api.OpUntil, op(api.OpNext, f), f)
	}
	if tree.Right(f) != api.OK {
		t.Fatal(tree.Size(f))
	}
	want(t, nnf.Simple, f, f)
	want(t, nnf.Simple, op(api.OpNext, op(api.OpWeak, f.Kids[1], f.Kids[1])), op(api.OpNext, f.Kids[1]))
	turns := p
	for range 33 {
		turns = op(api.OpAlways, op(api.OpEvent, op(api.OpNot, turns)))
	}
	want(t, nnf.Simple, turns, turns)
	for _, f := range []api.Formula{op(api.OpNext, turns), op(api.OpNot, spread(api.OpAnd, 501, p))} {
		wantNone(t, nnf.Simple, f, api.ErrNnfForm)
	}
}

// The kids of &, | and <-> are laid in tree.Cmp's order: Ops as numbers, then names, byte by byte.
func TestSimpleOrder(t *testing.T) {
	for _, o := range []api.Op{api.OpAnd, api.OpOr, api.OpIff} {
		list := []api.Formula{prop(" "), prop("A"), prop("a"), prop("aa"), prop("b"), read("!c"), read("X a"), read("X b"), read("F a"), read("G a"), read("a U b"), read("a U c"), read("b U a"), read("a R b"), read("a W b"), read("a M b")}
		for i, a := range list {
			for _, b := range list[i+1:] {
				want(t, nnf.Simple, op(o, a, b), op(o, a, b))
				want(t, nnf.Simple, op(o, b, a), op(o, a, b))
			}
		}
	}
	// All others keep their kids where they are.
	for _, o := range []api.Op{api.OpImp, api.OpUntil, api.OpRelease, api.OpWeak, api.OpStrong} {
		want(t, nnf.Simple, op(o, prop("b"), prop("a")), op(o, prop("b"), prop("a")))
		want(t, nnf.Simple, op(o, prop("a"), prop("b")), op(o, prop("a"), prop("b")))
	}
}
