package eval_test

import (
	"slices"
	"strings"
	"testing"

	"augur/api"
	"augur/eval"
	"augur/words"
)

// Example 1, and the others of its operators.
func TestExample(t *testing.T) {
	w := of("1 1 (2 0)")
	for text, want := range map[string]string{
		"p": "yynn", "X p": "ynnn", "p U q": "yyyn", "F p": "yynn", "G F q": "yyyy", "G q": "nnnn", "q R !p": "nnyy", "p W q": "yyyn",
		"true": "yyyy", "false": "nnnn", "q": "nnyn", "!p": "nnyy", "!!p": "yynn", "p & q": "nnnn", "p & X p": "ynnn", "p | q": "yyyn", "p -> q": "nnyy", "p <-> q": "nnny",
		"X X p": "nnnn", "X X q": "ynyn", "X q": "nyny", "F q": "yyyy", "F G p": "nnnn", "G !p": "nnyy", "F G !p": "yyyy", "q M !p": "nnyy", "p M !p": "nnnn", "p R !p": "nnyy",
		"p W false": "nnnn", "!p W false": "nnyy", "q U p": "yynn", "true U (p & X q)": "yynn", "p M true": "yynn", "false R true": "yyyy",
	} {
		wantAll(t, read(text), pq(), w, want)
	}
}

// DOC.md's examples that tell of words.
func TestOfTheDocument(t *testing.T) {
	for _, c := range []struct {
		formula, word string
		want          bool
	}{
		{"p U q", "1 1 2 (0)", true}, {"p U q", "(2)", true}, {"p U q", "(1)", false}, {"p U q", "1 (0)", false}, {"p U q", "1 2 (0)", true},
		{"G F p", "(1)", true}, {"G F p", "0 0 (0 0 1)", true}, {"G F p", "1 1 1 (0)", false},
		{"G (p -> X q)", "(0)", true}, {"G (p -> X q)", "1 (3)", true}, {"G (p -> X q)", "1 3 (2)", true}, {"G (p -> X q)", "1 (0)", false}, {"G (p -> X q)", "(1 2)", true}, {"G (p -> X q)", "(2 1)", true}, {"G (p -> X q)", "2 (1)", false},
	} {
		if got, err := eval.Holds(read(c.formula), pq(), of(c.word)); got != c.want || err != api.OK {
			t.Errorf("%s of %s: %v, %v", c.formula, c.word, got, err)
		}
	}
}

// letterAt is the letter at i, by the rule.
func letterAt(w api.Word, i int) uint16 {
	if i < len(w.Stem) {
		return w.Stem[i]
	}
	return w.Loop[(i-len(w.Stem))%len(w.Loop)]
}

func some(from, below int, holds func(int) bool) bool {
	for j := from; j < below; j++ {
		if holds(j) {
			return true
		}
	}
	return false
}

func every(from, below int, holds func(int) bool) bool {
	return !some(from, below, func(j int) bool { return !holds(j) })
}

// byRule is what the chapter's table says at i, of kids g and h: so far as far is, all that can differ is seen.
func byRule(o api.Op, g, h func(int) bool, i, far int) bool {
	until := func() bool {
		return some(i, far, func(j int) bool { return h(j) && every(i, j, g) })
	}
	strong := func() bool {
		return some(i, far, func(j int) bool { return g(j) && every(i, j+1, h) })
	}
	switch o {
	case api.OpTrue:
		return true
	case api.OpFalse:
		return false
	case api.OpNot:
		return !g(i)
	case api.OpAnd:
		return g(i) && h(i)
	case api.OpOr:
		return g(i) || h(i)
	case api.OpImp:
		return h(i) || !g(i)
	case api.OpIff:
		return g(i) && h(i) || !g(i) && !h(i)
	case api.OpNext:
		return g(i + 1)
	case api.OpEvent:
		return some(i, far, g)
	case api.OpAlways:
		return every(i, far, g)
	case api.OpUntil:
		return until()
	case api.OpRelease:
		return every(i, far, h) || strong()
	case api.OpWeak:
		return every(i, far, g) || until()
	case api.OpStrong:
		return strong()
	}
	panic("no operator of the future")
}

// told is a formula of a word by the chapter's table, at each number from 0 on.
func told(f api.Formula, names []string, w api.Word) func(i int) bool {
	if f.Op == api.OpProp {
		bit := slices.Index(names, f.Name)
		return func(i int) bool { return letterAt(w, i)>>bit&1 == 1 }
	}
	kids := make([]func(int) bool, 2)
	for i, kid := range f.Kids {
		kids[i] = told(kid, names, w)
	}
	places := len(w.Stem) + len(w.Loop)
	row := make([]bool, places)
	for i := range row {
		row[i] = byRule(f.Op, kids[0], kids[1], i, i+2*places)
	}
	return func(i int) bool {
		if i >= places {
			i = len(w.Stem) + (i-len(w.Stem))%len(w.Loop)
		}
		return row[i]
	}
}

// rowByRule is the same at each place.
func rowByRule(f api.Formula, names []string, w api.Word) string {
	holds := told(f, names, w)
	var row []bool
	for i := range len(w.Stem) + len(w.Loop) {
		row = append(row, holds(i))
	}
	return yn(row)
}

// What a formula means: each small one, of each small word, however it is written.
func TestSmallByTheRule(t *testing.T) {
	list := smallFormulas()
	for w := range written(2, 4) {
		known := table(t, pq(), w)
		for _, f := range list {
			want := rowByRule(f, pq(), w)
			if got := yn(along(t, f, pq(), w)); got != want {
				t.Fatalf("%s of %v: %s, want %s", show(f), w, got, want)
			}
			if got, err := known.Row(f); err != api.OK || yn(got) != want {
				t.Fatalf("Row of %s of %v: %s, %v, want %s", show(f), w, yn(got), err, want)
			}
		}
	}
}

// Some deeper ones, by all calls.
func TestDeeperByTheRule(t *testing.T) {
	both := map[bool]int{}
	for _, w := range append(someWords(40), slices.Collect(words.All(2, 2))...) {
		for _, f := range someFormulas(200, 6) {
			want := rowByRule(f, pq(), w)
			wantAll(t, f, pq(), w, want)
			both[strings.ContainsRune(want, 'y') && strings.ContainsRune(want, 'n')]++
		}
	}
	if both[true] < 1000 {
		t.Errorf("%d alone hold here and not there", both[true])
	}
}

// Bit i is the i-th name's: of eight names, of each letter; and none of no names.
func TestLettersAndNames(t *testing.T) {
	names := []string{"a", "b", "c", "d", "e", "f", "g", "h"}
	var all []uint16
	for letter := range uint16(256) {
		all = append(all, letter)
	}
	for n := range len(names) + 1 {
		w := api.Word{Loop: all[:1<<n]}
		for bit, name := range names[:n] {
			var want []bool
			for _, letter := range w.Loop {
				want = append(want, letter>>bit&1 == 1)
			}
			wantAll(t, prop(name), names[:n], w, yn(want))
		}
	}
	wantAll(t, read("G true"), nil, of("0 (0)"), "yy")
	wantAll(t, read("F false"), nil, of("0 (0)"), "nn")
	wantAll(t, read("a & !b & c"), []string{"c", "b", "a"}, of("(5 7 4)"), "ynn")
}

// Names of any kind, of which one is a beginning of another, or looks like a formula.
func TestOddNames(t *testing.T) {
	for _, names := range [][]string{
		{"a", "ab", "aa", "b"}, {" ", "  ", "~", "!"}, {"X", "X a", "true", "(a)"}, {"p U q", "p", "q", "U"}, {"0", "1", "00", "01"}, {"P", "p", "P ", " P"},
		{strings.Repeat("x", 32), strings.Repeat("x", 31), strings.Repeat("x", 31) + "y", "x"},
	} {
		known := table(t, names, of("1 2 4 8 3 (5 9 0 14)"))
		for _, a := range names {
			for _, b := range names {
				for _, o := range ofTwo {
					f := op(o, prop(a), prop(b))
					wantKnown(t, known, f, rowByRule(f, names, of("1 2 4 8 3 (5 9 0 14)")))
				}
			}
		}
	}
}

// Formulas that are written alike but for how their parts belong together.
func TestPartsAreToldApart(t *testing.T) {
	w := of("1 2 0 3 (2 1 0 0)")
	known := table(t, pq(), w)
	for _, texts := range [][2]string{
		{"X (p U q)", "X p U q"}, {"(p U q) U p", "p U (q U p)"}, {"!(p & q)", "!p & q"}, {"G (p -> q)", "G p -> q"}, {"F p U F q", "F (p U F q)"},
		{"p W q", "q W p"}, {"p R q", "p M q"}, {"p U q", "p W q"}, {"F p", "G p"}, {"true", "false"}, {"X F p", "F X p"}, {"X X p", "X p"}, {"p -> q", "p <-> q"},
	} {
		for _, text := range texts {
			wantKnown(t, known, read(text), rowByRule(read(text), pq(), w))
		}
	}
}

// The greatest and the deepest formulas are asked; what is greater or deeper is not.
func TestGreatFormulas(t *testing.T) {
	w := of("0 (1 0 0)")
	deep := func(n int, o api.Op) api.Formula {
		f := prop("p")
		for range n {
			f = op(o, f)
		}
		return f
	}
	wantAll(t, deep(99, api.OpNot), []string{"p"}, w, "ynyy")
	wantAll(t, deep(98, api.OpNot), []string{"p"}, w, "nynn")
	wantAll(t, deep(99, api.OpNext), []string{"p"}, w, "nynn")
	wantAll(t, deep(98, api.OpNext), []string{"p"}, w, "nnyn")
	wantAll(t, deep(97, api.OpNext), []string{"p"}, w, "ynny")
	wantAll(t, deep(99, api.OpEvent), []string{"p"}, w, "yyyy")
	wantAll(t, deep(99, api.OpAlways), []string{"p"}, w, "nnnn")
	var wide func(n int) api.Formula
	wide = func(n int) api.Formula {
		if n == 1 {
			return prop("p")
		}
		return op(ofTwo[n%len(ofTwo)], wide(n/2), wide(n-n/2))
	}
	great := op(api.OpNot, wide(500))
	wantAll(t, great, []string{"p"}, w, rowByRule(great, []string{"p"}, w))
	for _, f := range []api.Formula{deep(100, api.OpNext), op(api.OpNot, great)} {
		if row, err := eval.Along(f, []string{"p"}, w); err != api.ErrTreeBig || len(row) != 0 {
			t.Errorf("%d places, %v", len(row), err)
		}
	}
}

// Long words: what a letter far off settles, in the stem and in the loop, and what none settles.
func TestLongWords(t *testing.T) {
	const long = 100000
	noughts := make([]uint16, long)
	p := slices.Repeat([]uint16{1}, long)
	y, n := strings.Repeat("y", long), strings.Repeat("n", long)
	for _, c := range []struct {
		text string
		w    api.Word
		want string
	}{
		{"F p", api.Word{Stem: noughts, Loop: []uint16{1}}, y + "y"},
		{"F p", api.Word{Stem: p, Loop: []uint16{0}}, y + "n"},
		{"F p", api.Word{Stem: p, Loop: noughts}, y + n},
		{"G p", api.Word{Stem: p, Loop: append(slices.Clone(p), 0)}, n + n + "n"},
		{"G p", api.Word{Stem: noughts, Loop: p}, n + y},
		{"p U q", api.Word{Stem: p, Loop: p}, n + n},
		{"p W q", api.Word{Stem: p, Loop: p}, y + y},
		{"p U q", api.Word{Stem: p, Loop: append(slices.Clone(p), 2)}, y + y + "y"},
		{"p U q", api.Word{Stem: p, Loop: append([]uint16{2}, p...)}, y + "y" + y},
		{"p W q", api.Word{Stem: p, Loop: append([]uint16{0}, p...)}, n + "n" + n},
		{"q R p", api.Word{Stem: p, Loop: append(slices.Clone(p), 3)}, y + y + "y"},
		{"q M p", api.Word{Stem: p, Loop: p}, n + n},
		{"q M p", api.Word{Stem: p, Loop: append([]uint16{3}, p...)}, y + "y" + y},
		{"X p", api.Word{Stem: noughts, Loop: append([]uint16{1}, noughts...)}, n[1:] + "y" + "n" + n[1:] + "y"},
	} {
		row := along(t, read(c.text), pq(), c.w)
		if yn(row) != c.want {
			t.Errorf("%s of %d and %d letters", c.text, len(c.w.Stem), len(c.w.Loop))
		}
	}
}
