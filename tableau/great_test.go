package tableau_test

import (
	"math"
	"slices"
	"testing"

	"augur/api"
	"augur/tableau"
	"augur/tree"
)

// chain is X so many times ahead of a name, or of its negation.
func chain(n int, name string, not bool) api.Formula {
	f := prop(name)
	if not {
		f = op(api.OpNot, f)
	}
	return row(n, api.OpNext, f)
}

// literals are the names and their negations.
func literals() []api.Formula {
	var list []api.Formula
	for _, name := range names8() {
		list = append(list, prop(name), op(api.OpNot, prop(name)))
	}
	return list
}

// The deepest formula: a node of each X, and of the name, and of nothing.
func TestDeep(t *testing.T) {
	f := chain(99, "p", false)
	if tree.Depth(f) != api.MaxDepth {
		t.Fatal(tree.Depth(f))
	}
	wantLimit(t, f, pq(), 101)
	wantSame(t, of(t, f, pq()), newByHand(f), pq())
	nest := prop("p")
	for range 49 {
		nest = op(api.OpUntil, prop("q"), op(api.OpNext, nest))
	}
	x := of(t, nest, pq())
	for _, n := range []int{0, 1, x.Len() / 2, x.Len() - 1} {
		wantSides(t, x, x.Subs(), n)
	}
	wantLimit(t, nest, pq(), x.Len())
}

// Formulas with nearly as many unlike parts as there may be: sets go over all their words.
func TestManyParts(t *testing.T) {
	var chains []api.Formula
	for i, name := range names8() {
		chains = append(chains, chain(90+i%5, name, false))
	}
	chains = append(chains, chain(91, "a", true), chain(89, "b", true))
	for _, f := range []api.Formula{
		spread(api.OpAnd, chains...),
		op(api.OpOr, spread(api.OpAnd, chains[:5]...), spread(api.OpAnd, chains[5:]...)),
		op(api.OpAnd, op(api.OpOr, chains[0], op(api.OpOr, chains[1], chains[2])), spread(api.OpAnd, chains[3:]...)),
		op(api.OpUntil, op(api.OpAnd, chains[0], op(api.OpFalse)), spread(api.OpAnd, chains[1:]...)),
	} {
		if n := len(tree.Subs(f)); tree.Right(f) != api.OK || n < 930 {
			t.Fatalf("%d parts", n)
		}
		h := newByHand(f)
		if len(h.nodes) > 2000 {
			t.Fatal(len(h.nodes))
		}
		wantSame(t, of(t, f, names8()), h, names8())
	}
	// A thousand parts, of which few are unlike.
	f := op(api.OpNext, spread(api.OpUntil, copies(500, prop("p"))...))
	if tree.Size(f) != api.MaxNodes {
		t.Fatal(tree.Size(f))
	}
	wantNone(t, f, pq(), 100, api.ErrLimitTableau)
	wantLimit(t, op(api.OpNext, spread(api.OpAnd, copies(500, prop("p"))...)), pq(), 3)
}

// wantHigh wants of a formula as many unlike parts, so that there are bits in the last words of sets; and its nodes.
func wantHigh(t *testing.T, f api.Formula, parts, ins int) {
	t.Helper()
	if n := len(tree.Subs(f)); tree.Right(f) != api.OK || n != parts {
		t.Fatalf("%d parts, want %d", n, parts)
	}
	h := newByHand(f)
	if len(h.init) != ins {
		t.Fatalf("%d beginnings, want %d", len(h.init), ins)
	}
	wantSame(t, of(t, f, names8()), h, names8())
}

// Two sides that are unlike in the last word alone; and two of which the last word tells the order, and the others another one.
func TestLastWord(t *testing.T) {
	var chains []api.Formula
	for _, name := range []string{"a", "b", "c", "f", "g", "h"} {
		chains = append(chains, chain(88, name, false))
	}
	for _, name := range []string{"f", "g", "h"} {
		chains = append(chains, chain(88, name, true))
	}
	last := op(api.OpOr, chain(88, "d", false), chain(88, "e", false))
	wantHigh(t, spread(api.OpAnd, append(chains, last)...), 989, 2)
	var common []api.Formula
	for _, name := range []string{"a", "b", "c", "d", "e", "f"} {
		common = append(common, chain(95, name, false))
	}
	long := op(api.OpAnd, chain(85, "g", false), chain(85, "h", false))
	large := spread(api.OpAnd, chain(73, "a", true), chain(73, "b", true), chain(73, "c", true))
	wantHigh(t, op(api.OpAnd, spread(api.OpAnd, common...), op(api.OpOr, long, large)), 980, 2)
}

// Far more choices than pairs: of each name and each negation, at the next place, the one or the other, twice. What comes has all of these or all of those.
func TestManyWaysToOnePair(t *testing.T) {
	var edges []api.Formula
	for _, a := range names8() {
		for _, b := range names8() {
			one, other := chain(1, a, false), chain(1, b, true)
			edges = append(edges, op(api.OpOr, one, other), op(api.OpOr, other, one))
		}
	}
	f := spread(api.OpAnd, edges...)
	x := of(t, f, names8())
	if len(x.Init()) != 511 || x.Len() != 514 {
		t.Errorf("%d beginnings, %d nodes", len(x.Init()), x.Len())
	}
	wantLimit(t, f, names8(), 514)
}

// Likewise: of each two names the one or the other.
func TestManyChoices(t *testing.T) {
	var edges []api.Formula
	for _, a := range names8() {
		for _, b := range names8() {
			if a != b {
				edges = append(edges, op(api.OpOr, prop(a), prop(b)))
			}
		}
	}
	f := spread(api.OpAnd, edges...)
	x := of(t, f, names8())
	if len(x.Init()) != 9 || x.Len() != 10 { // all eight, or all but one; and nothing
		t.Errorf("%d beginnings, %d nodes", len(x.Init()), x.Len())
	}
	// All pairs of literals: no letter has one of each.
	var all []api.Formula
	for i, a := range literals() {
		for _, b := range literals()[:i] {
			all = append(all, op(api.OpOr, a, b))
		}
	}
	if x := of(t, spread(api.OpAnd, all...), names8()); x.Len() != 0 {
		t.Errorf("%d nodes", x.Len())
	}
	// Each of these has but one way to go, once the last name is known.
	var forced []api.Formula
	last := prop("h")
	for i := range 30 {
		lits := literals()
		a := op(api.OpNext, op(api.OpUntil, lits[i%14], lits[(7*i+3+i/14)%14]))
		b := op(api.OpNext, op(api.OpRelease, lits[i%14], lits[(7*i+3+i/14)%14]))
		forced = append(forced, op(api.OpOr, b, a), op(api.OpOr, a, last), op(api.OpOr, b, last))
	}
	f = op(api.OpAnd, op(api.OpNot, last), spread(api.OpAnd, forced...))
	if x := of(t, f, names8()); len(x.Init()) != 1 {
		t.Errorf("%d beginnings", len(x.Init()))
	}
}

// Far more nodes than most: it is told ahead of finding all of them.
func TestFarTooMany(t *testing.T) {
	var list []api.Formula
	for i := range 20 {
		list = append(list, op(api.OpOr, chain(i+1, "p", false), chain(i+1, "q", true)))
	}
	for _, f := range []api.Formula{
		spread(api.OpAnd, list...), spread(api.OpUntil, list...), spread(api.OpRelease, list...), op(api.OpRelease, op(api.OpFalse), spread(api.OpAnd, list...)),
	} {
		for _, most := range []int{-1, 0, 1, 10, 1000} {
			wantNone(t, f, pq(), most, api.ErrLimitTableau)
		}
	}
}

// A count that is known: of each name it is so now, or it is due.
func TestManyNodes(t *testing.T) {
	var list []api.Formula
	for i, name := range names8() {
		list = append(list, op(api.OpUntil, op(api.OpTrue), prop(name)))
		f := op(api.OpRelease, op(api.OpFalse), spread(api.OpAnd, list...))
		nodes := 1 << (i + 1)
		wantLimit(t, f, names8(), nodes)
		x := of(t, f, names8())
		g := x.General()
		if len(x.Init()) != nodes || len(g.Edges) != nodes*nodes || len(g.Sets) != i+1 {
			t.Errorf("%d names: %d beginnings, %d edges, %d sets", i+1, len(x.Init()), len(g.Edges), len(g.Sets))
		}
		for _, set := range g.Sets {
			if len(set) != nodes/2 || !slices.IsSorted(set) {
				t.Errorf("%d names: a set of %d", i+1, len(set))
			}
		}
	}
}

// Of greater formulas: the limit is held against the count, wherever it comes to be too small; the numbers are in their order.
func TestGreaterOnes(t *testing.T) {
	d := draw(99)
	made := 0
	for range 200 {
		f := d.formula(8, "p", "q", "r")
		names := []string{"p", "q", "r"}
		x, err := tableau.Of(f, names, 3000)
		if err == api.ErrLimitTableau {
			continue
		}
		if err != api.OK {
			t.Fatal(told(f), err)
		}
		made++
		wantOrder(t, x, f)
		if n := x.Len(); n > 0 {
			wantNone(t, f, names, n-1, api.ErrLimitTableau)
		}
		if y, err := tableau.Of(f, names, math.MaxInt); err != api.OK || y.Len() != x.Len() {
			t.Fatal(told(f), err)
		}
	}
	if made < 50 {
		t.Errorf("%d were made", made)
	}
}

// wantOrder wants the numbers of those that come at one time to rise by Old, then by Due.
func wantOrder(t *testing.T, x *tableau.Tableau, f api.Formula) {
	t.Helper()
	size := len(x.Subs())
	text := func(n int) string {
		old, due := x.Old(n), x.Due(n)
		return digits(size, func(at int) bool { return slices.Contains(old, at) }) + digits(size, func(at int) bool { return slices.Contains(due, at) })
	}
	known := 0
	row := func(list []int) {
		if !slices.IsSorted(list) {
			t.Fatalf("%.300s: %v", told(f), list)
		}
		for len(list) > 0 && list[0] < known {
			list = list[1:]
		}
		for i, n := range list {
			if n != known+i || i > 0 && text(n-1) >= text(n) {
				t.Fatalf("%.300s: %v behind %d", told(f), list, known)
			}
		}
		known += len(list)
	}
	row(x.Init())
	for n := range x.Len() {
		row(x.Next(n))
	}
	if known != x.Len() {
		t.Fatalf("%.300s: %d of %d are reached", told(f), known, x.Len())
	}
}
