package solve_test

import (
	"testing"

	"augur/api"
	"augur/buchi"
	"augur/empty"
	"augur/nnf"
	"augur/solve"
	"augur/tableau"
	"augur/tree"
)

// satByHand is what the chapter says of a form of f, which is a formula over names, step by step.
func satByHand(form func(api.Formula) (api.Formula, api.Errno), f api.Formula, names []string) (api.Word, bool, api.Errno) {
	g, err := form(f)
	if err != api.OK {
		return api.Word{}, false, err
	}
	x, err := tableau.Of(g, names, 1<<30)
	if err != api.OK {
		panic(told(g))
	}
	a, err := buchi.Degen(x.General())
	if err != api.OK {
		return api.Word{}, false, err
	}
	return empty.Witness(a)
}

// byHand is what the chapter says of a call.
func byHand(c call, names []string, l ...api.Formula) (api.Word, bool, api.Errno) {
	var f api.Formula
	switch c.name {
	case "Sat":
		return satByHand(nnf.Normal, l[0], names)
	case "Valid":
		w, is, err := satByHand(nnf.Dual, l[0], names)
		return w, err == api.OK && !is, err
	case "Implies":
		f = api.Formula{Op: api.OpAnd, Kids: []api.Formula{l[0], {Op: api.OpNot, Kids: []api.Formula{l[1]}}}}
	case "Same":
		f = api.Formula{Op: api.OpNot, Kids: []api.Formula{{Op: api.OpIff, Kids: []api.Formula{l[0], l[1]}}}}
	}
	if tree.Right(f) != api.OK {
		return api.Word{}, false, api.ErrTreeBig
	}
	w, is, err := satByHand(nnf.Normal, f, names)
	return w, err == api.OK && !is, err
}

// wantByHand wants of a call what the chapter says, and tells it.
func wantByHand(t *testing.T, c call, names []string, l ...api.Formula) (bool, api.Errno) {
	t.Helper()
	w, is, err := byHand(c, names, l...)
	if err != api.OK {
		wantNo(t, c, names, l, err)
	} else {
		wantTold(t, c, names, l, is, w.Stem, w.Loop)
	}
	return is, err
}

// counted wants that a call said yes and no so often at least.
func counted(t *testing.T, c call, said map[bool]int, least int) {
	t.Helper()
	if said[true] < least || said[false] < least {
		t.Errorf("%s said %v", c.name, said)
	}
}

// All small formulas of one name, by themselves and two by two.
func TestSmallByHand(t *testing.T) {
	one, two := small(3), small(2)
	for _, c := range calls() {
		said := map[bool]int{}
		if c.of == 1 {
			for i := 0; i < len(one); i += 7 { // all of them would take too long
				is, _ := wantByHand(t, c, []string{"a"}, one[i])
				said[is]++
			}
		} else {
			for _, f := range two {
				for _, g := range two {
					is, _ := wantByHand(t, c, []string{"a"}, f, g)
					said[is]++
				}
			}
		}
		counted(t, c, said, 500)
	}
}

// People's formulas and drawn ones, by themselves and two by two.
func TestDrawnByHand(t *testing.T) {
	list := some(250, 4)
	for _, c := range calls() {
		said := map[bool]int{}
		for i, f := range list {
			g := list[(i*7+1)%len(list)]
			if i%4 == 0 {
				g, _ = nnf.Simple(f)
			}
			is, _ := wantByHand(t, c, ab(), []api.Formula{f, g}[:c.of]...)
			said[is]++
		}
		counted(t, c, said, 10)
	}
	for _, c := range calls()[2:] {
		for _, f := range people() {
			for _, g := range people() {
				wantByHand(t, c, ab(), f, g)
			}
		}
	}
}

// Over names in other orders, and over more of them; over none.
func TestOverOtherNames(t *testing.T) {
	d := draw(21)
	lists := [][]string{{"b", "a"}, {"c", "b", "x", "a"}, {"a", "b", "c"}, names8()}
	for i := range 200 {
		names := lists[i%len(lists)]
		l := []api.Formula{d.formula(3, names...), d.formula(3, names...)}
		for _, c := range calls() {
			wantByHand(t, c, names, l[:c.of]...)
		}
	}
	for _, c := range calls() {
		for _, f := range readAll("true", "false", "X true", "G F true", "true U false", "!(false <-> X false)") {
			for _, g := range readAll("true", "G false") {
				wantByHand(t, c, nil, []api.Formula{f, g}[:c.of]...)
			}
		}
	}
}

// The letters that are told are those of the list: the same formula over other lists.
func TestLettersOfTheList(t *testing.T) {
	for _, x := range []struct {
		names      []string
		stem, loop []uint16
	}{
		{[]string{"q"}, []uint16{0, 1}, []uint16{0}},
		{[]string{"p", "q"}, []uint16{0, 2}, []uint16{0}},
		{[]string{"q", "p"}, []uint16{0, 1}, []uint16{0}},
		{[]string{"a", "b", "c", "d", "e", "f", "g", "q"}, []uint16{0, 128}, []uint16{0}},
	} {
		wantTold(t, calls()[0], x.names, readAll("!q & X q & X X G !q"), true, x.stem, x.loop)
	}
}

// What is told is the least lasso as it is: its loop may be longer than it need be.
func TestAsItIs(t *testing.T) {
	w, is, err := solve.Sat(read("G F a & G F b"), ab())
	if err != api.OK || !is || shown(w) != "1 (2 1)" {
		t.Errorf("%s, %v, %v", shown(w), is, err)
	}
	w, is, err = solve.Valid(read("G F a & G F b"), ab())
	if err != api.OK || is || !isWord(w, []uint16{0}, []uint16{0, 0}) {
		t.Errorf("%v, %v, %v", w, is, err)
	}
}
