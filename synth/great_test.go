package synth_test

import (
	"math"
	"slices"
	"strings"
	"testing"

	"augur/api"
	"augur/buchi"
	"augur/nnf"
	"augur/synth"
	"augur/tableau"
	"augur/tree"
)

// boundless are limits that are as great as they may be.
func boundless() api.Limits {
	return api.Limits{Text: math.MaxInt, Nodes: math.MaxInt, Depth: math.MaxInt, Props: math.MaxInt, Splits: math.MaxInt, Tableau: math.MaxInt, States: math.MaxInt}
}

// wantNone wants of a formula that it is refused, as a text too.
func wantNone(t *testing.T, f api.Formula, l api.Limits, err api.Errno) {
	t.Helper()
	if tree.Right(f) != api.OK {
		t.Fatal("no formula")
	}
	wantOfRefused(t, f, tree.Names(f), l, err)
	wantRefused(t, told(f), l, err, 0)
}

// Y1: a normal form that is refused, for its size or for its depth, counts as 1001 nodes: above all limits of them.
func TestRefusedForms(t *testing.T) {
	iffs, weak := prop("a"), prop("a")
	for range 10 {
		iffs = op(api.OpIff, iffs, prop("b"))
	}
	for range 60 {
		weak = op(api.OpWeak, weak, prop("b"))
	}
	if _, err := nnf.Normal(weak); err != api.ErrTreeBig || tree.Size(weak)*5 > 1000 {
		t.Fatal(err)
	}
	for _, f := range []api.Formula{iffs, weak, op(api.OpNot, iffs)} {
		for _, nodes := range []int{api.MaxNodes, api.MaxNodes + 1, math.MaxInt} {
			l := boundless()
			l.Nodes = nodes
			wantNone(t, f, l, api.ErrLimitNodes)
			l.Splits, l.Tableau, l.States = 0, 0, 0
			wantNone(t, f, l, api.ErrLimitNodes)
		}
	}
}

// A form of 1000 nodes is taken; of 1001 not: here it is the one of the negation.
func TestMostNodes(t *testing.T) {
	leaves := make([]api.Formula, 500)
	for i := range leaves {
		leaves[i] = op(api.OpTrue)
	}
	f := op(api.OpNext, spread(api.OpAnd, leaves...))
	for _, nodes := range []int{1000, 1001, math.MaxInt} {
		l := boundless()
		l.Nodes = nodes
		if m := madeOf(t, f, nil, l); !same(m, machine(nil, st(1, 0))) {
			t.Errorf("%+v", m)
		}
		if c, ok := synth.Count(told(f), l); !ok || c.Nodes != 1000 {
			t.Errorf("%+v, %v", c, ok)
		}
	}
	l := boundless()
	l.Nodes = 999
	wantNone(t, f, l, api.ErrLimitNodes)
	leaves[7] = prop("a")
	f = op(api.OpNext, spread(api.OpAnd, leaves...))
	if _, err := nnf.Dual(f); err != api.ErrTreeBig || tree.Size(f) != 1000 {
		t.Fatal(err, tree.Size(f))
	}
	wantNone(t, f, boundless(), api.ErrLimitNodes)
	leaves[8] = op(api.OpTrue)
	f = spread(api.OpAnd, leaves...) // 999 of them, and one more for the negation of a
	if m := madeOf(t, f, []string{"a"}, boundless()); len(m.Next) != 3 {
		t.Errorf("%+v", m)
	}
}

// The greatest depth, in both sides.
func TestMostDepth(t *testing.T) {
	f := row(99, api.OpNext, op(api.OpTrue))
	if m := madeOf(t, f, nil, boundless()); !same(m, machine(nil, st(1, 0))) {
		t.Errorf("%d states", len(m.Next))
	}
	f = row(98, api.OpNext, prop("a")) // the negation of a is one deeper
	m := madeOf(t, f, []string{"a"}, boundless())
	if len(m.Next) != 101 || m.Out[99] != api.False || m.Out[100] != api.True {
		t.Errorf("%d states", len(m.Next))
	}
	l := boundless()
	l.Depth = 98
	wantNone(t, f, l, api.ErrLimitDepth)
	wantNone(t, row(99, api.OpNext, prop("a")), boundless(), api.ErrLimitNodes)
}

// eithers is X..Xa | X..Xb for each of these numbers of X, all of them together: 2 to the number of them beginnings, few edges, no sets.
func eithers(numbers ...int) api.Formula {
	var list []api.Formula
	for _, n := range numbers {
		list = append(list, op(api.OpOr, row(n, api.OpNext, prop("a")), row(n, api.OpNext, prop("b"))))
	}
	return spread(api.OpAnd, list...)
}

// nodesOf is how many nodes there are.
func nodesOf(t *testing.T, f api.Formula) int {
	t.Helper()
	x, err := tableau.Of(f, tree.Names(f), 100000)
	if err != api.OK {
		t.Fatal(err)
	}
	return x.Len()
}

// Y1: a tableau of 65536 nodes can be taken, one of more is above every limit.
func TestMostTableau(t *testing.T) {
	// Beginnings and what comes behind one letter 2^14 each; behind two to four 2^13; then half as many each time; behind 16 letters c alone is due.
	f := eithers(1, 4, 5, 6, 7, 8, 9, 10, 11, 12, 13, 14, 15, 16)
	fits, more := op(api.OpAnd, f, row(17, api.OpNext, prop("c"))), op(api.OpAnd, f, row(18, api.OpNext, prop("c")))
	if n, m := nodesOf(t, fits), nodesOf(t, more); n != 65536 || m != 65537 {
		t.Fatalf("%d nodes, %d nodes", n, m)
	}
	l := boundless()
	madeOf(t, fits, tree.Names(fits), l)
	l.Tableau = 65536
	if c, ok := synth.Count(told(fits), l); !ok || c.Tableau != 65536 {
		t.Errorf("%+v, %v", c, ok)
	}
	l.Tableau = 65535
	wantNone(t, fits, l, api.ErrLimitTableau)
	for _, tableau := range []int{65536, 65537, 2147483647, math.MaxInt} {
		l.Tableau = tableau
		wantNone(t, more, l, api.ErrLimitTableau)
		l.States = 0
		wantNone(t, more, l, api.ErrLimitTableau)
	}
}

// Far more nodes than that: it is told as soon as there are too many; on either side.
func TestFarTooManyNodes(t *testing.T) {
	f := eithers(1, 2, 3, 4, 5, 6, 7, 8, 9, 10, 11, 12, 13, 14, 15, 16, 17, 18, 19, 20, 21, 22, 23, 24)
	for _, g := range []api.Formula{f, op(api.OpNot, f)} {
		wantNone(t, g, boundless(), api.ErrLimitTableau)
		l := boundless()
		l.Tableau = 1000
		wantNone(t, g, l, api.ErrLimitTableau)
	}
}

// Y1: a tableau that is small enough, but with so many sets that buchi.Degen refuses it, is above every limit, too; on either side, whatever the limit of states.
func TestTooManySets(t *testing.T) {
	var untils []api.Formula
	for i := range 70 {
		untils = append(untils, op(api.OpUntil, prop("a"), row(i, api.OpNext, prop("b"))))
	}
	// No node has one of these, but each of them makes a set.
	none := op(api.OpAnd, op(api.OpFalse), spread(api.OpAnd, untils[:20]...))
	f := op(api.OpOr, none, read("G (a -> X X X X X X X X X X X b)"))
	normal, err := nnf.Normal(f)
	if err != api.OK {
		t.Fatal(err)
	}
	x, err := tableau.Of(normal, ab(), 65536)
	if err != api.OK {
		t.Fatal(err)
	}
	if _, err := buchi.Degen(x.General()); err != api.ErrMuch {
		t.Fatalf("%d nodes, %d sets: %v", x.Len(), len(x.General().Sets), err)
	}
	for _, g := range []api.Formula{f, op(api.OpNot, f)} {
		l := boundless()
		wantNone(t, g, l, api.ErrLimitTableau)
		l.Tableau = x.Len()
		wantNone(t, g, l, api.ErrLimitTableau)
		l.States = 0
		wantNone(t, g, l, api.ErrLimitTableau)
		l.Splits = 10
		wantNone(t, g, l, api.ErrLimitSplits)
	}
}

// Far too many states: a limit of them is told as soon as there are more.
func TestFarTooManyStates(t *testing.T) {
	for _, text := range []string{"((((a U b) U c) U d) U e) U f", "F (a & F (b & F (c & F (d & F (e & F f)))))", "(a U b) U (c U d) U (e U f) U (g U h)"} {
		for _, states := range []int{0, 1, 10, 4096} {
			l := synth.Default()
			l.States = states
			wantNone(t, read(text), l, api.ErrLimitStates)
			wantNone(t, op(api.OpNot, read(text)), l, api.ErrLimitStates)
		}
	}
}

// As many as may be, with Default.
func TestMostOfDefault(t *testing.T) {
	f := op(api.OpAlways, op(api.OpImp, prop("a"), row(11, api.OpNext, prop("b"))))
	c, ok := synth.Count(told(f), synth.Default())
	if !ok || c.Tableau != 4096 || c.States != 4096 {
		t.Errorf("%+v, %v", c, ok)
	}
	if m := made(t, told(f), synth.Default()); len(m.Next) != 2049 { // where b is due, and false
		t.Errorf("%d states", len(m.Next))
	}
	wantNone(t, op(api.OpAlways, op(api.OpImp, prop("a"), row(12, api.OpNext, prop("b")))), synth.Default(), api.ErrLimitTableau)
}

// Eight names: 256 letters.
func TestEightNames(t *testing.T) {
	text := "G (a -> X (b & c)) & (d U (e | f)) & F (g & h)"
	m := made(t, text, wide())
	if !slices.Equal(m.Props, names8()) {
		t.Fatalf("%q", m.Props)
	}
	for _, row := range m.Next {
		if len(row) != 256 {
			t.Fatalf("%d letters", len(row))
		}
	}
	run := func(u ...int) api.Verdict {
		s := 0
		for _, letter := range u {
			s = m.Next[s][letter]
		}
		return m.Out[s]
	}
	const a, b, c, d, e, g, h = 1, 2, 4, 8, 16, 64, 128
	for _, c := range []struct {
		want api.Verdict
		u    []int
	}{
		{api.Inconclusive, nil}, {api.Inconclusive, []int{d, d | a, d | b | c}}, {api.False, []int{d, d | a, d | b}}, {api.False, []int{d, 0}}, {api.Inconclusive, []int{d, e, 0, g | h}}, {api.False, []int{e, a, 0}},
	} {
		if got := run(c.u...); got != c.want {
			t.Errorf("behind %v: %d, want %d", c.u, got, c.want)
		}
	}
	wantRefused(t, text+" & i", wide(), api.ErrLimitProps, 0)
}

// Texts as long as may be, and longer.
func TestLongTexts(t *testing.T) {
	want := made(t, "a U b", boundless())
	for _, text := range []string{"a U b" + strings.Repeat(" ", api.MaxText-5), strings.Repeat("(", 32765) + "a U b" + strings.Repeat(")", 32765)} {
		if m := made(t, text, boundless()); !same(m, want) {
			t.Errorf("%d bytes: %+v", len(text), m)
		}
		l := boundless()
		l.Text = len(text) - 1
		wantRefused(t, text, l, api.ErrLimitText, 0)
	}
	for _, l := range []api.Limits{boundless(), {}} {
		wantRefused(t, "a U b"+strings.Repeat(" ", api.MaxText-4), l, api.ErrLimitText, 0)
	}
}
