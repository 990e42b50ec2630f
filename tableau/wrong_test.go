package tableau_test

import (
	"math"
	"slices"
	"strings"
	"testing"

	"augur/api"
	"augur/nnf"
	"augur/tableau"
	"augur/tree"
)

func TestNumbers(t *testing.T) {
	if api.OK != 0 || api.ErrTableauForm != 90 || api.ErrTableauProp != 91 || api.ErrLimitTableau != 92 {
		t.Errorf("%d, %d, %d, %d", api.OK, api.ErrTableauForm, api.ErrTableauProp, api.ErrLimitTableau)
	}
}

func copies(n int, f api.Formula) []api.Formula { return slices.Repeat([]api.Formula{f}, n) }

// noForms are trees that are no formulas in negation normal form.
func noForms() []api.Formula {
	p, q := prop("p"), prop("q")
	list := []api.Formula{
		// No formulas of the future.
		{}, prop(""), prop(`a"b`), prop(`\`), prop("a\n"), prop("é"), prop("\x7f"), prop(strings.Repeat("a", 33)), op(api.OpNot), op(api.OpAnd, p), op(api.OpNot, p, q), op(api.OpUntil, p, q, p), op(api.OpNext), op(api.OpRelease, p),
		{Op: api.OpTrue, Name: "p"}, op(api.OpTrue, p), {Op: api.OpProp, Name: "p", Kids: []api.Formula{p}}, {Op: api.OpNext, Name: "p", Kids: []api.Formula{p}},
		op(0, p), op(22), op(22, p, q), op(255, p), op(255), op(api.OpAnd, prop("r"), op(api.OpNot)),
		// Too great, or too deep.
		row(100, api.OpNext, p), row(20000, api.OpNext, p), spread(api.OpAnd, copies(501, p)...), op(api.OpNext, op(api.OpNext, spread(api.OpOr, copies(500, p)...))), spread(api.OpUntil, copies(20000, op(api.OpTrue))...),
	}
	for _, text := range []string{"F p", "G p", "p W q", "p M q", "p -> q", "p <-> q", "!(p & q)", "!(p | q)", "!(p U q)", "!(p R q)", "!X p", "!true", "!false", "!!p", "!!!p", "p & F q", "X G p", "p U (q -> p)", "(p R !(q & p)) | q", "false & !true", "X X !X p"} {
		list = append(list, read(text))
	}
	for _, o := range []api.Op{api.OpYest, api.OpWeakYest, api.OpOnce, api.OpHist, api.OpSince, api.OpTrig} {
		list = append(list, op(o, p), op(o, p, q), op(api.OpNext, op(o, p)), op(api.OpAnd, p, op(o, q, p)), op(api.OpNot, op(o, p)))
	}
	return list
}

// noLists are lists that are none of names.
func noLists() [][]string {
	return [][]string{
		{"p", "p"}, {"p", "q", "p"}, {"p", "q", ""}, {""}, {"p", "q", `"`}, {"p", `q\`, "q"}, {"p", "q", "\x1f"}, {"p", "q", "\x7f"}, {"p", "q", "é"}, {"p", "q", strings.Repeat("a", 33)}, {"p", "q", "r\n"},
		{"p", "q", "3", "4", "5", "6", "7", "8", "9"}, {"p", "q", "3", "4", "5", "6", "7", "p"}, slices.Repeat([]string{"p"}, 1000000),
	}
}

func mosts() []int { return []int{math.MinInt, -1, 0, 1, 5, math.MaxInt} }

func TestNoForms(t *testing.T) {
	lists := append(noLists()[:5], nil, pq(), []string{"r"}, names8())
	for _, f := range noForms() {
		if tree.Right(f) == api.OK && nnf.Is(f) {
			t.Fatalf("%.200s is one", show(f))
		}
		for _, names := range lists {
			for _, most := range mosts() {
				wantNone(t, f, names, most, api.ErrTableauForm)
			}
		}
	}
}

func TestNoLists(t *testing.T) {
	for _, text := range []string{"true", "false", "p", "p U q", "p & !p"} {
		for _, names := range noLists() {
			for _, most := range mosts() {
				wantNone(t, read(text), names, most, api.ErrTableauProp)
			}
		}
	}
}

func TestLackingNames(t *testing.T) {
	for _, text := range []string{"r", "!r", "p & r", "p U (q R !r)", "false & r", "true | r", "X X r", "P", `"p "`, "pq"} {
		for _, names := range [][]string{nil, pq(), {"q", "p", "s"}, {"R"}} {
			for _, most := range mosts() {
				wantNone(t, read(text), names, most, api.ErrTableauProp)
			}
		}
	}
	// More names than a list may have are lacking in each.
	nine := spread(api.OpAnd, prop("a"), prop("b"), prop("c"), prop("d"), prop("e"), prop("f"), prop("g"), prop("h"), prop("i"))
	wantNone(t, nine, names8(), 99, api.ErrTableauProp)
	wantNone(t, nine, append(names8(), "i"), 99, api.ErrTableauProp)
	// More names than the formula has are none too many.
	for _, text := range []string{"true", "a", "c U h"} {
		of(t, read(text), names8())
	}
	of(t, prop(strings.Repeat("a", 32)), []string{strings.Repeat("a", 32)})
	of(t, prop(" ~"), []string{"!", " ~"})
}

// Not even no nodes are within a limit below 0.
func TestLimits(t *testing.T) {
	for _, c := range []struct {
		text  string
		nodes int
	}{
		{"false", 0}, {"p & !p", 0}, {"X false", 1}, {"false R p", 1}, {"true", 2}, {"p U q", 3}, {"X X X p", 5},
	} {
		wantLimit(t, read(c.text), pq(), c.nodes)
	}
}

// A tableau that was refused leaves nothing behind.
func TestRefusedAndThenMade(t *testing.T) {
	f := normal("G (p -> X (q U p)) & F (q & X !q)")
	want := tell(of(t, f, pq()))
	for most := range want.length {
		wantNone(t, f, pq(), most, api.ErrLimitTableau)
		x, err := tableau.Of(f, pq(), want.length)
		if err != api.OK || !tell(x).same(want) {
			t.Fatalf("with %d: %v", want.length, err)
		}
	}
}
