package nnf_test

import (
	"strings"
	"testing"

	"augur/api"
	"augur/nnf"
	"augur/tree"
)

func TestNumbers(t *testing.T) {
	if api.OK != 0 || api.ErrTreeBig != 31 || api.ErrNnfForm != 70 {
		t.Errorf("%d, %d, %d", api.OK, api.ErrTreeBig, api.ErrNnfForm)
	}
}

// The calls that make a formula.
var calls = map[string]func(api.Formula) (api.Formula, api.Errno){"Normal": nnf.Normal, "Dual": nnf.Dual, "Simple": nnf.Simple}

// noFormulas are trees that tree.Right does not take.
func noFormulas() []api.Formula {
	p, q := prop("p"), prop("q")
	list := []api.Formula{
		{}, prop(""), prop(`a"b`), prop(`\`), prop("a\n"), prop("é"), prop("\x7f"), prop(strings.Repeat("a", 33)), op(api.OpNot), op(api.OpAnd, p), op(api.OpNot, p, q), op(api.OpUntil, p, q, p),
		{Op: api.OpTrue, Name: "p"}, op(api.OpTrue, p), {Op: api.OpProp, Name: "p", Kids: []api.Formula{p}}, {Op: api.OpNot, Name: "p", Kids: []api.Formula{p}},
		op(0, p), op(22), op(22, p, q), op(255, p), op(255), op(api.OpAnd, prop("r"), op(api.OpNot)), op(api.OpAnd, op(api.OpOr), row(100, api.OpNext, p)), op(api.OpAnd, op(api.OpFalse), op(api.OpOr)),
		// Too great or too deep is no formula either, though what came of it might be one.
		row(100, api.OpNext, p), row(100, api.OpNot, p), row(20000, api.OpNot, p), spread(api.OpAnd, 501, p), op(api.OpNot, op(api.OpNot, spread(api.OpOr, 500, p))), spread(api.OpAnd, 20000, op(api.OpTrue)),
	}
	for _, o := range ofPast {
		list = append(list, op(o, p), op(o, p, q), op(api.OpAlways, op(o, p)), op(api.OpAnd, p, op(o, q, p)), op(api.OpNot, op(o, p)), op(api.OpAnd, op(api.OpFalse), op(o, q, p)))
	}
	return list
}

func TestNoFormulas(t *testing.T) {
	for _, f := range noFormulas() {
		if tree.Right(f) == api.OK {
			t.Fatalf("%.200s is one", show(f))
		}
		for _, call := range calls {
			wantNone(t, call, f, api.ErrNnfForm)
		}
		if nnf.Is(f) {
			t.Errorf("Is of %.200s", show(f))
		}
	}
}

// R1: what is no formula goes ahead of what is too great.
func TestNoFormulaIsFirst(t *testing.T) {
	f := prop("p")
	for range 90 {
		f = op(api.OpIff, f, prop("q"))
	}
	for _, call := range []func(api.Formula) (api.Formula, api.Errno){nnf.Normal, nnf.Dual} {
		wantNone(t, call, f, api.ErrTreeBig)
		wantNone(t, call, op(api.OpIff, f, prop("")), api.ErrNnfForm)
		wantNone(t, call, op(api.OpIff, op(api.OpYest, prop("p")), f), api.ErrNnfForm)
	}
}

// Names of any kind stay what they are.
func TestOddNames(t *testing.T) {
	for _, name := range []string{" ", "~", "!", "true", "!p", "X a", "(a)", strings.Repeat("x", 32), "p U q"} {
		p := prop(name)
		want(t, nnf.Normal, op(api.OpNot, op(api.OpNext, p)), op(api.OpNext, op(api.OpNot, p)))
		want(t, nnf.Dual, p, op(api.OpNot, p))
		want(t, nnf.Simple, op(api.OpAnd, p, op(api.OpNot, op(api.OpNot, p))), p)
		want(t, nnf.Simple, p, p)
		if !nnf.Is(op(api.OpNot, p)) {
			t.Errorf("%q", name)
		}
	}
}

// memory is all lists that were seen, with the room behind them.
type memory map[*api.Formula]string

// own fails, if a list of f shares memory with one that was seen.
func (m memory) own(t *testing.T, who string, f api.Formula) {
	t.Helper()
	for i := range f.Kids[:cap(f.Kids)] {
		at := &f.Kids[:cap(f.Kids)][i]
		if other, seen := m[at]; seen {
			t.Fatalf("%s shares memory with %s", who, other)
		}
		m[at] = who
	}
	for _, kid := range f.Kids {
		m.own(t, who, kid)
	}
}

// spoil changes all that f has, down to its last list.
func spoil(f api.Formula) {
	for i := range f.Kids {
		spoil(f.Kids[i])
		f.Kids[i] = api.Formula{Op: 99, Name: "spoilt"}
	}
}

// R2: what is handed in is neither changed nor kept; what comes out is new memory, lists within lists, too.
func TestNewMemory(t *testing.T) {
	list := append(small(), someFormulas(1000, 6)...)
	list = append(list, read("(X p W F q) <-> (G p M !X q)"), read("!!(p U X q)"), read("true & (p U X q)"), read("(p U X q) & (p U X q)"), read("X q & (p U X q)"), read("(X p | X q) & X p"))
	for _, f := range list {
		given := tree.Copy(f)
		seen := memory{}
		seen.own(t, "what was handed in", given)
		kept := map[string]api.Formula{}
		for range 2 {
			for name, call := range calls {
				form := answer(t, call, given)
				seen.own(t, name+" of "+told(f), form)
				if first, twice := kept[name]; twice && !same(first, form) {
					t.Fatalf("%s of %s: %s, then %s", name, told(f), told(first), told(form))
				}
				kept[name] = form
			}
			nnf.Is(given)
		}
		if !same(given, f) {
			t.Fatalf("%s has changed: %s", told(f), show(given))
		}
		before := map[string]string{}
		for name, form := range kept {
			before[name] = show(form)
		}
		spoil(given)
		for name, form := range kept {
			if show(form) != before[name] {
				t.Fatalf("%s of %s has changed", name, told(f))
			}
			spoil(form)
		}
		for name, call := range calls {
			if form := answer(t, call, f); show(form) != before[name] {
				t.Fatalf("%s of %s: %s", name, told(f), told(form))
			}
		}
	}
}

// One list that stands in f at several places comes out as several.
func TestSharedParts(t *testing.T) {
	part := read("p U X q")
	f := op(api.OpWeak, op(api.OpNext, part), op(api.OpStrong, part, part))
	for name, call := range calls {
		seen := memory{}
		seen.own(t, "part", part)
		seen.own(t, name, answer(t, call, f))
		want(t, call, f, answer(t, call, tree.Copy(f)))
	}
	if !same(part, read("p U X q")) {
		t.Error(show(part))
	}
}

// R6: a list that is empty is one that is nil.
func TestNilAndEmpty(t *testing.T) {
	none := []api.Formula{}
	empty := api.Formula{Op: api.OpProp, Name: "p", Kids: none}
	f := op(api.OpAnd, op(api.OpNot, empty), op(api.OpOr, prop("p"), api.Formula{Op: api.OpTrue, Kids: none}))
	want(t, nnf.Normal, f, read("!p & (p | true)"))
	want(t, nnf.Dual, f, read("p | !p & false"))
	want(t, nnf.Simple, f, read("!p"))
	want(t, nnf.Simple, op(api.OpUntil, empty, prop("p")), prop("p"))
	if !nnf.Is(f) || !nnf.Is(empty) || !nnf.Is(op(api.OpNot, empty)) {
		t.Error("Is")
	}
}

// Nothing is kept from call to call: many hands may ask at one time.
func TestManyHands(t *testing.T) {
	list := someFormulas(200, 6)
	all := func() string {
		said := ""
		for _, f := range list {
			for _, call := range []func(api.Formula) (api.Formula, api.Errno){nnf.Normal, nnf.Dual, nnf.Simple} {
				form, _ := call(f)
				said += show(form)
			}
		}
		return said
	}
	first := all()
	done := make(chan string)
	for range 8 {
		go func() { done <- all() }()
	}
	for range 8 {
		if <-done != first {
			t.Error("another answer")
		}
	}
}
