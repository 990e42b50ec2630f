package eval_test

import (
	"math"
	"slices"
	"strings"
	"testing"

	"augur/api"
	"augur/eval"
	"augur/tree"
)

func TestNumbers(t *testing.T) {
	if api.OK != 0 || api.ErrArg != 1 || api.ErrTreeForm != 30 || api.ErrTreeBig != 31 || api.ErrEvalProp != 60 || api.ErrEvalWord != 61 {
		t.Errorf("%d, %d, %d, %d, %d, %d", api.OK, api.ErrArg, api.ErrTreeForm, api.ErrTreeBig, api.ErrEvalProp, api.ErrEvalWord)
	}
}

// noFormulas are trees that are none, each with its error.
func noFormulas() map[api.Errno][]api.Formula {
	deep := prop("p")
	for range 100 {
		deep = op(api.OpNext, deep)
	}
	far := prop("p")
	for range 20000 {
		far = op(api.OpNot, far)
	}
	list := []api.Formula{
		{}, prop(""), prop(`a"b`), prop(`\`), prop("a\n"), prop("é"), prop("\x7f"), prop(strings.Repeat("a", 33)), op(api.OpNot), op(api.OpAnd, prop("p")), op(api.OpUntil, prop("p"), prop("q"), prop("p")),
		{Op: api.OpTrue, Name: "p"}, op(api.OpTrue, prop("p")), {Op: api.OpProp, Name: "p", Kids: []api.Formula{prop("p")}}, {Op: api.OpNot, Name: "p", Kids: []api.Formula{prop("p")}},
		op(0, prop("p")), op(22), op(22, prop("p"), prop("q")), op(255, prop("p")), op(api.OpAnd, prop("r"), op(api.OpNot)), op(api.OpAnd, op(api.OpOr), deep),
	}
	for _, o := range ofPast {
		list = append(list, op(o, prop("p")), op(o, prop("p"), prop("q")), op(api.OpAlways, op(o, prop("p"))), op(api.OpAnd, prop("p"), op(o, prop("q"), prop("p"))))
	}
	return map[api.Errno][]api.Formula{
		api.ErrTreeForm: list,
		api.ErrTreeBig:  {deep, far, op(api.OpAnd, prop("r"), deep)},
	}
}

// noLists are lists that are none of names.
func noLists() [][]string {
	return [][]string{
		{"p", "p"}, {"p", "q", "p"}, {"p", "q", ""}, {""}, {"p", "q", `"`}, {"p", `q\`, "q"}, {"p", "q", "\x1f"}, {"p", "q", "\x7f"}, {"p", "q", "é"}, {"p", "q", strings.Repeat("a", 33)}, {"p", "q", "r\n"},
		{"p", "q", "3", "4", "5", "6", "7", "8", "9"}, {"p", "q", "3", "4", "5", "6", "7", "p"}, slices.Repeat([]string{"p"}, 1000000),
	}
}

// noWords are none over two names.
func noWords() []api.Word {
	return []api.Word{
		{}, {Stem: []uint16{1}}, {Stem: []uint16{1}, Loop: []uint16{}}, of("(4)"), of("4 (0)"), of("1 2 (3 4)"), of("1 65535 3 (0)"), of("(0 0 0 256)"), of("(65535)"), {Stem: []uint16{4}},
	}
}

// wantError wants an error of both calls, and nothing beside it.
func wantError(t *testing.T, f api.Formula, names []string, w api.Word, want api.Errno) {
	t.Helper()
	if row, err := eval.Along(f, names, w); err != want || len(row) != 0 {
		t.Errorf("Along of %.99s, %.99q, %v: %d places, %v, want %v", head(f), names, w, len(row), err, want)
	}
	if is, err := eval.Holds(f, names, w); err != want || is {
		t.Errorf("Holds of %.99s, %.99q, %v: %v, %v, want %v", head(f), names, w, is, err, want)
	}
}

// head is show of a tree that may be deep.
func head(f api.Formula) string {
	if tree.Depth(f) > api.MaxDepth {
		return "a deep one"
	}
	return show(f)
}

// R1: the first error in the chapter's order, whatever else is wrong.
func TestErrorsInTheirOrder(t *testing.T) {
	right, lacks := read("p U q"), []api.Formula{prop("r"), read("p U (q & X r)"), prop("P"), prop("p "), prop("pq"), read("G (p -> F a)")}
	lists := append(noLists(), pq(), nil)
	ways := append(noWords(), of("1 (2)"))
	for want, trees := range noFormulas() {
		for _, f := range trees {
			for _, names := range lists {
				for _, w := range ways {
					wantError(t, f, names, w, want)
				}
			}
		}
	}
	for _, w := range ways {
		for _, names := range noLists() {
			wantError(t, right, names, w, api.ErrEvalProp)
			wantError(t, op(api.OpTrue), names, w, api.ErrEvalProp)
			wantError(t, lacks[0], names, w, api.ErrEvalProp)
		}
		for _, f := range lacks {
			wantError(t, f, pq(), w, api.ErrEvalProp)
		}
		wantError(t, right, nil, w, api.ErrEvalProp)
		wantError(t, right, []string{"p"}, w, api.ErrEvalProp)
		wantError(t, right, []string{"q"}, w, api.ErrEvalProp)
	}
	for _, w := range noWords() {
		wantError(t, right, pq(), w, api.ErrEvalWord)
		wantError(t, op(api.OpTrue), pq(), w, api.ErrEvalWord)
	}
}

// A letter is below 2 to the number of names, of all numbers of names.
func TestLettersThatAreNone(t *testing.T) {
	names := []string{"a", "b", "c", "d", "e", "f", "g", "h"}
	for n := range len(names) + 1 {
		most := uint16(1)<<n - 1
		for _, w := range []api.Word{{Loop: []uint16{most}}, {Stem: []uint16{most, 0}, Loop: []uint16{0, most}}} {
			wantAll(t, op(api.OpTrue), names[:n], w, strings.Repeat("y", len(w.Stem)+len(w.Loop)))
		}
		for _, w := range []api.Word{{Loop: []uint16{most + 1}}, {Stem: []uint16{0, most + 1}, Loop: []uint16{0}}, {Loop: []uint16{0, most + 1}}} {
			wantError(t, op(api.OpTrue), names[:n], w, api.ErrEvalWord)
			if made, err := eval.New(names[:n], w); made != nil || err != api.ErrEvalWord {
				t.Errorf("%d names, %v: %v", n, w, err)
			}
		}
	}
}

func TestNoTable(t *testing.T) {
	for _, names := range noLists() {
		for _, w := range append(noWords(), of("(0)")) {
			if made, err := eval.New(names, w); made != nil || err != api.ErrEvalProp {
				t.Errorf("%.99q, %v: %v", names, w, err)
			}
		}
	}
	for _, w := range noWords() {
		if made, err := eval.New(pq(), w); made != nil || err != api.ErrEvalWord {
			t.Errorf("%v: %v", w, err)
		}
	}
}

// wantTableError wants an error of a table, and nothing beside it; none of them hangs on what it was asked ahead.
func wantTableError(t *testing.T, known *eval.Table, f api.Formula, place int, want api.Errno) {
	t.Helper()
	if is, err := known.Holds(f, place); is || err != want {
		t.Errorf("Holds of %.99s at %d: %v, %v, want %v", head(f), place, is, err, want)
	}
	row, err := known.Row(f)
	if want == api.ErrArg {
		want = api.OK
	}
	if err != want || (want != api.OK) != (len(row) == 0) {
		t.Errorf("Row of %.99s: %d places, %v, want %v", head(f), len(row), err, want)
	}
}

func TestTablesErrors(t *testing.T) {
	known := table(t, pq(), of("1 1 (2 0)"))
	noPlaces := []int{-1, 4, 5, 65536, math.MinInt, math.MaxInt}
	for range 2 {
		for want, trees := range noFormulas() {
			for _, f := range trees {
				for _, place := range append(noPlaces, 0, 3) {
					wantTableError(t, known, f, place, want)
				}
			}
		}
		for _, place := range append(noPlaces, 0, 3) {
			wantTableError(t, known, prop("r"), place, api.ErrEvalProp)
			wantTableError(t, known, read("p | F P"), place, api.ErrEvalProp)
		}
		for _, place := range noPlaces {
			wantTableError(t, known, prop("p"), place, api.ErrArg)
			wantTableError(t, known, op(api.OpTrue), place, api.ErrArg)
		}
		wantKnown(t, known, read("p U q"), "yyyn")
		wantKnown(t, known, prop("p"), "yynn")
	}
}
