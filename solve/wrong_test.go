package solve_test

import (
	"slices"
	"strings"
	"testing"

	"augur/api"
)

// wantRefused wants of all calls an error of f, wherever f stands, and nothing beside it.
func wantRefused(t *testing.T, f api.Formula, names []string, want api.Errno) {
	t.Helper()
	yes := op(api.OpTrue)
	for _, c := range calls() {
		if c.of == 1 {
			wantNo(t, c, names, []api.Formula{f}, want)
			continue
		}
		for _, l := range [][]api.Formula{{f, yes}, {yes, f}, {f, f}} {
			wantNo(t, c, names, l, want)
		}
	}
	for _, l := range [][]api.Formula{{f}, {yes, f}, {f, op(api.OpFalse)}, {op(api.OpFalse), yes, f}, {yes, yes, yes, f, yes, yes, yes, yes}} {
		wantNoCore(t, names, l, want)
	}
}

// badTrees are no formulas of the future: by form, and by being too great.
func badTrees() []api.Formula {
	a, b := prop("a"), prop("b")
	return []api.Formula{
		{}, op(api.OpTrig + 1), op(255), op(api.OpAnd, a), op(api.OpNot), op(api.OpNot, a, b), op(api.OpTrue, a), {Op: api.OpTrue, Name: "a"}, {Op: api.OpProp}, prop("a\"b"), prop(strings.Repeat("n", 33)), {Op: api.OpUntil, Name: "U", Kids: []api.Formula{a, b}},
		op(api.OpYest, a), op(api.OpSince, a, b), op(api.OpAnd, a, op(api.OpOnce, b)), {Op: api.OpProp, Name: "a", Kids: []api.Formula{b}},
		chain(100, api.OpNext, a), chain(200, api.OpNext, op(api.OpHist, a)), spreadOf(501, api.OpAnd, a), chain(50000, api.OpNot, a),
	}
}

func badLists() [][]string {
	return [][]string{{""}, {"a", "b", "a"}, {"a", "b", `"`}, {"a", "b", `\`}, {"a", "b", "\x1f"}, {"a", "b", "\x7f"}, {"a", "b", "é"}, {"a", "b", strings.Repeat("n", 33)}, append(names8(), "i"), slices.Repeat([]string{"a"}, 70), make([]string, 9)}
}

// What is no formula, no list of names, or has a name that the list lacks.
func TestNoForm(t *testing.T) {
	good := readAll("a", "G (a -> F b)", "true")
	for _, f := range badTrees() {
		for _, names := range [][]string{nil, {"b"}, {"b", "a"}, names8()} {
			wantRefused(t, f, names, api.ErrSolveForm)
		}
	}
	for _, names := range badLists() {
		for _, f := range append(good, badTrees()...) {
			wantRefused(t, f, names, api.ErrSolveForm)
		}
		wantNoCore(t, names, nil, api.ErrSolveForm)
	}
	for _, f := range []api.Formula{prop("z"), read("a & z"), read("true | A"), read(`F "a "`), read("G (a -> X c)")} {
		wantRefused(t, f, ab(), api.ErrSolveForm)
	}
	wantRefused(t, read("a | true"), nil, api.ErrSolveForm)
	wantRefused(t, read("a | true"), []string{"b"}, api.ErrSolveForm)
}

// What is right, at the edges: names as long and as many as they may be, and all bytes of which they may be.
func TestRight(t *testing.T) {
	all := calls()
	for _, names := range [][]string{names8(), {" ", "~", "!", "#", "[", "]", "U", "true"}, {strings.Repeat("n", 32), strings.Repeat("n", 31)}} {
		for i, name := range names {
			wantTold(t, all[0], names, []api.Formula{prop(name)}, true, []uint16{1 << i}, []uint16{0})
			wantTold(t, all[1], names, []api.Formula{prop(name)}, false, []uint16{0}, []uint16{0})
			wantTold(t, all[2], names, []api.Formula{prop(name), prop(name)}, true, nil, nil)
			wantCore(t, names, []api.Formula{prop(name), not(prop(name))}, true, 0, 1)
		}
	}
}

// Too great an automaton: each call tells which error, and it is told behind all others.
func tooGreat() (nodes, states api.Formula) {
	return read("X G (a -> " + strings.Repeat("X ", 15) + "b)"), read(strings.Repeat("X ", 25) + "(G (a <-> " + strings.Repeat("X ", 12) + "a) & G F b & G F c)")
}

// An automaton has 65536 states at most: of a tableau of more nodes Degen says that it is none, else of more states that they are too many.
func TestMostStates(t *testing.T) {
	nodes, states := tooGreat()
	for _, x := range []struct {
		f    api.Formula
		want api.Errno
	}{{nodes, api.ErrBuchiForm}, {states, api.ErrMuch}} {
		if _, _, err := byHand(calls()[0], names8(), x.f); err != x.want {
			t.Fatalf("%v", err)
		}
		wantNo(t, calls()[0], names8(), []api.Formula{x.f}, x.want)
		wantNo(t, calls()[1], names8(), []api.Formula{not(x.f)}, x.want)
		wantNo(t, calls()[2], names8(), []api.Formula{x.f, op(api.OpFalse)}, x.want)
		wantNo(t, calls()[2], names8(), []api.Formula{op(api.OpTrue), not(x.f)}, x.want)
		wantNo(t, calls()[3], names8(), []api.Formula{x.f, op(api.OpFalse)}, x.want)
		wantNoCore(t, names8(), []api.Formula{x.f}, x.want)
	}
	just := []api.Formula{nodes.Kids[0], states.Kids[0]} // 65536 nodes; 65536 states
	wantTold(t, calls()[0], names8(), just[:1], true, nil, []uint16{0})
	if w, is, err := calls()[0].ask(names8(), just[1]); err != api.OK || !is || len(w.Loop) == 0 {
		t.Errorf("%v, %v, %v", w, is, err)
	}
	wantTold(t, calls()[1], names8(), []api.Formula{not(just[0])}, false, nil, []uint16{0})
	wantCore(t, names8(), just[:1], false)
	wantCore(t, names8(), just[1:], false)
	wantNoCore(t, names8(), just, api.ErrBuchiForm) // both at once are too great
}

// A row that is tried and has an error ends the search; one behind the core is not tried, and one ahead of it is.
func TestErrorsOfRows(t *testing.T) {
	nodes, states := tooGreat()
	no, yes := op(api.OpFalse), op(api.OpTrue)
	for _, x := range []struct {
		l    []api.Formula
		want api.Errno
	}{
		{[]api.Formula{nodes}, api.ErrBuchiForm}, {[]api.Formula{states}, api.ErrMuch},
		{[]api.Formula{nodes, states}, api.ErrBuchiForm}, {[]api.Formula{states, nodes}, api.ErrMuch},
		{[]api.Formula{nodes, no}, api.ErrBuchiForm}, {[]api.Formula{yes, states, no}, api.ErrMuch},
		{[]api.Formula{prop("a"), states, not(prop("a"))}, api.ErrMuch}, // the core would be of two places, and those of one are ahead
		{[]api.Formula{nodes.Kids[0], states.Kids[0], prop("a"), nodes}, api.ErrBuchiForm},
	} {
		wantNoCore(t, names8(), x.l, x.want)
	}
	wantCore(t, names8(), []api.Formula{no, nodes, states}, true, 0)
	wantCore(t, names8(), []api.Formula{yes, no, nodes}, true, 1)
	// Of two places too: each one alone is small enough, and a row of both is not.
	half := read("G (a -> " + strings.Repeat("X ", 13) + "b)")
	other := read("G (c -> " + strings.Repeat("X ", 13) + "d)")
	want := api.ErrBuchiForm
	if _, _, err := calls()[0].ask(names8(), op(api.OpAnd, half, other)); err != want {
		t.Fatalf("%v", err)
	}
	wantNoCore(t, names8(), []api.Formula{half, other, prop("a"), not(prop("a"))}, want)
	wantCore(t, names8(), []api.Formula{prop("e"), not(prop("e")), half, other}, true, 0, 1)
	wantCore(t, names8(), []api.Formula{half, prop("e"), not(prop("e")), other}[:3], true, 1, 2)
}

// The form is told ahead of the size of what is made; of what is asked for first, first.
func TestOrderOfErrors(t *testing.T) {
	a := prop("a")
	deep := chain(99, api.OpNext, a) // one more is too deep
	bad := op(api.OpAnd, a)
	nodes, states := tooGreat()
	for _, c := range calls()[2:] {
		wantNo(t, c, ab(), []api.Formula{deep, bad}, api.ErrSolveForm)
		wantNo(t, c, ab(), []api.Formula{bad, deep}, api.ErrSolveForm)
		wantNo(t, c, ab(), []api.Formula{deep, prop("z")}, api.ErrSolveForm)
		wantNo(t, c, ab(), []api.Formula{prop("z"), deep}, api.ErrSolveForm)
		wantNo(t, c, []string{"a", "a"}, []api.Formula{deep, deep}, api.ErrSolveForm)
		wantNo(t, c, ab(), []api.Formula{deep, deep}, api.ErrTreeBig)
		wantNo(t, c, names8(), []api.Formula{nodes, deep}, api.ErrTreeBig)
		wantNo(t, c, names8(), []api.Formula{deep, states}, api.ErrTreeBig)
	}
	for _, names := range [][]string{ab(), {"a", "a"}, nil} {
		wantNoCore(t, names, slices.Repeat([]api.Formula{a}, 9), api.ErrMuch)
		wantNoCore(t, names, slices.Repeat([]api.Formula{bad}, 9), api.ErrMuch)
		wantNoCore(t, names, slices.Repeat([]api.Formula{deep}, 100000), api.ErrMuch)
	}
	wantNoCore(t, names8(), []api.Formula{op(api.OpFalse), deep, deep}, api.ErrTreeBig) // ahead of all rows
	wantNoCore(t, names8(), []api.Formula{deep, deep, bad}, api.ErrSolveForm)
	wantNoCore(t, names8(), []api.Formula{deep, deep, prop("z")}, api.ErrSolveForm)
	wantNoCore(t, names8(), []api.Formula{nodes, states, deep}, api.ErrTreeBig)
	wantNoCore(t, names8(), []api.Formula{nodes, spreadOf(490, api.OpOr, a)}, api.ErrTreeBig)
}

// How deep a formula may be: 100 by itself, one less where a tree is put on top of it, two less below an OpNot or an OpIff.
func TestMostDepth(t *testing.T) {
	x := func(n int) api.Formula { return chain(n-1, api.OpNext, prop("a")) } // of depth n
	yes := op(api.OpTrue)
	all := calls()
	for _, c := range []struct {
		c    call
		l    []api.Formula
		want api.Errno
	}{
		{all[0], []api.Formula{x(100)}, api.OK}, {all[1], []api.Formula{x(99)}, api.OK},
		{all[0], []api.Formula{x(101)}, api.ErrSolveForm}, {all[1], []api.Formula{x(101)}, api.ErrSolveForm},
		{all[1], []api.Formula{x(100)}, api.ErrTreeBig}, // the negation at its name is a step more
		{all[1], []api.Formula{not(x(99))}, api.OK}, {all[1], []api.Formula{not(not(x(98)))}, api.OK},
		{all[2], []api.Formula{x(99), yes}, api.OK}, {all[2], []api.Formula{x(100), yes}, api.ErrTreeBig},
		{all[2], []api.Formula{yes, x(98)}, api.OK}, {all[2], []api.Formula{yes, x(99)}, api.ErrTreeBig},
		{all[2], []api.Formula{x(99), x(98)}, api.OK}, {all[2], []api.Formula{x(98), x(99)}, api.ErrTreeBig},
		{all[3], []api.Formula{x(97), yes}, api.OK}, {all[3], []api.Formula{yes, x(97)}, api.OK},
		{all[3], []api.Formula{x(99), yes}, api.ErrTreeBig}, {all[3], []api.Formula{yes, x(99)}, api.ErrTreeBig},
	} {
		wantTooBigOr(t, c.c, []string{"a"}, c.l, c.want)
	}
	core := func(want api.Errno, l ...api.Formula) {
		t.Helper()
		if want == api.OK {
			wantCore(t, []string{"a"}, l, false)
		} else {
			wantNoCore(t, []string{"a"}, l, want)
		}
	}
	core(api.OK, x(100))
	core(api.OK, x(99), yes)
	core(api.ErrTreeBig, x(100), yes)
	core(api.ErrTreeBig, yes, x(100))
	core(api.OK, x(93), yes, yes, yes, yes, yes, yes, yes)
	core(api.ErrTreeBig, x(94), yes, yes, yes, yes, yes, yes, yes)
	core(api.OK, yes, yes, yes, yes, yes, yes, yes, x(99))
	core(api.ErrTreeBig, yes, yes, yes, yes, yes, yes, yes, x(100))
	core(api.OK, yes, yes, yes, x(95))
}

// wantTooBigOr wants of a call what the chapter says of it by hand, and that this is this error.
func wantTooBigOr(t *testing.T, c call, names []string, l []api.Formula, want api.Errno) {
	t.Helper()
	if want == api.ErrSolveForm {
		wantNo(t, c, names, l, want)
	} else if _, err := wantByHand(t, c, names, l...); err != want {
		t.Errorf("%s(%.200s): %v, want %v", c.name, toldAll(l), err, want)
	}
}

// How great a formula may be: 1000 nodes by itself, and in a tree of two; and so its negation normal form.
func TestMostNodes(t *testing.T) {
	a := prop("a")
	ands := func(n int) api.Formula { return spreadOf(n, api.OpAnd, a) } // of 2n-1 nodes
	big := a                                                             // of which the form is far greater
	for range 10 {
		big = op(api.OpIff, big, a)
	}
	all := calls()
	for _, c := range []struct {
		c    call
		l    []api.Formula
		want api.Errno
	}{
		{all[0], []api.Formula{ands(500)}, api.OK}, {all[0], []api.Formula{not(ands(500))}, api.ErrTreeBig}, {all[0], []api.Formula{not(not(ands(499)))}, api.OK},
		{all[0], []api.Formula{ands(501)}, api.ErrSolveForm}, {all[1], []api.Formula{ands(501)}, api.ErrSolveForm},
		{all[1], []api.Formula{ands(333)}, api.OK}, {all[1], []api.Formula{ands(334)}, api.ErrTreeBig}, // 998 and 1001, with a negation at each name
		{all[1], []api.Formula{not(ands(500))}, api.OK}, {all[0], []api.Formula{not(ands(400))}, api.ErrTreeBig}, {all[1], []api.Formula{ands(400)}, api.ErrTreeBig},
		{all[0], []api.Formula{big}, api.ErrTreeBig}, {all[1], []api.Formula{big}, api.ErrTreeBig},
		{all[2], []api.Formula{ands(499), a}, api.OK}, {all[2], []api.Formula{ands(500), a}, api.ErrTreeBig}, // 1000, by the tree, and 1002
		{all[2], []api.Formula{a, not(ands(498))}, api.OK}, {all[2], []api.Formula{a, not(ands(499))}, api.ErrTreeBig},
		{all[2], []api.Formula{a, ands(332)}, api.OK}, {all[2], []api.Formula{a, ands(334)}, api.ErrTreeBig},
		{all[2], []api.Formula{big, a}, api.ErrTreeBig}, {all[2], []api.Formula{a, big}, api.ErrTreeBig},
		{all[3], []api.Formula{ands(190), a}, api.OK}, {all[3], []api.Formula{a, ands(190)}, api.OK},
		{all[3], []api.Formula{ands(210), a}, api.ErrTreeBig}, {all[3], []api.Formula{a, ands(210)}, api.ErrTreeBig}, {all[3], []api.Formula{ands(500), ands(500)}, api.ErrTreeBig},
	} {
		wantTooBigOr(t, c.c, []string{"a"}, c.l, c.want)
	}
	names := []string{"a"}
	wantCore(t, names, []api.Formula{ands(500)}, false)
	wantNoCore(t, names, []api.Formula{not(ands(500))}, api.ErrTreeBig)
	wantNoCore(t, names, []api.Formula{big}, api.ErrTreeBig)
	wantNoCore(t, names, []api.Formula{op(api.OpFalse), big}, api.ErrTreeBig)
	wantCore(t, names, []api.Formula{ands(250), ands(250)}, false) // 999
	wantNoCore(t, names, []api.Formula{ands(250), ands(251)}, api.ErrTreeBig)
	wantCore(t, names, []api.Formula{ands(250), not(not(ands(249)))}, false) // 999
	wantNoCore(t, names, []api.Formula{ands(250), not(not(ands(250)))}, api.ErrTreeBig)
	wantCore(t, names, []api.Formula{ands(100), ands(100), ands(100), ands(100), not(a)}, true, 0, 4)
}
