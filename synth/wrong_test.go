package synth_test

import (
	"strings"
	"testing"

	"augur/api"
	"augur/syntax"
	"augur/synth"
	"augur/tree"
)

// The grammar's errors and their places come ahead of all limits.
func TestWrongTexts(t *testing.T) {
	for _, c := range []struct {
		text string
		err  api.Errno
		at   int
	}{
		{"", api.ErrSyntax, 0}, {"  ", api.ErrSyntax, 2}, {"X", api.ErrSyntax, 1}, {"a U", api.ErrSyntax, 3}, {"a U ", api.ErrSyntax, 4}, {"a b", api.ErrSyntax, 2}, {"(a", api.ErrSyntax, 2}, {"a)", api.ErrSyntax, 1}, {"()", api.ErrSyntax, 1}, {"U a", api.ErrSyntax, 0},
		{"a S b", api.ErrSyntax, 2}, {"Y a", api.ErrSyntax, 0}, {"a & O b", api.ErrSyntax, 4}, {"a b $", api.ErrSyntax, 2}, {"! & $", api.ErrSyntax, 2},
		{"a & $", api.ErrLexSign, 4}, {"a - b", api.ErrLexSign, 2}, {"a <- b", api.ErrLexSign, 2}, {"\x00", api.ErrLexSign, 0}, {"a & ä", api.ErrLexSign, 4}, {`a & "b`, api.ErrLexQuote, 4}, {`a & "b\"`, api.ErrLexQuote, 4},
		{`""`, api.ErrLexName, 0}, {"a U " + strings.Repeat("n", 33), api.ErrLexName, 4}, {strings.Repeat("(", 100000) + "a", api.ErrSyntax, 100001}, {strings.Repeat("! ", 70000), api.ErrSyntax, 140000},
	} {
		for _, l := range []api.Limits{synth.Default(), wide(), {}, {Text: -1, Nodes: -1, Depth: -1, Props: -1, Splits: -1, Tableau: -1, States: -1}} {
			wantRefused(t, c.text, l, c.err, c.at)
		}
	}
}

// What Parse refuses is refused with its number and its place, whatever it is.
func TestWhatParseRefuses(t *testing.T) {
	d := draw(4)
	pieces := strings.Split("a b ( ) U R W M X F G ! & | -> <-> true false $ \" Y S", " ")
	refused, taken := 0, 0
	for range 6000 {
		var text string
		for range 1 + d.below(7) {
			text += pieces[d.below(len(pieces))] + strings.Repeat(" ", d.below(3))
		}
		l := synth.Default()
		l.Text, l.Nodes, l.Depth, l.Props = 6+d.below(20), 1+d.below(6), 1+d.below(5), d.below(3)
		_, err := syntax.Parse(text, l)
		if err == nil {
			taken++
			continue
		}
		refused++
		why := err.(*api.Failure)
		wantRefused(t, text, l, why.Err, why.At)
	}
	if refused < 1000 || taken < 100 {
		t.Errorf("%d refused, %d taken", refused, taken)
	}
}

func badLists() [][]string {
	return [][]string{{""}, {"a", "b", "a"}, {"a", "b", `"`}, {"a", "b", `\`}, {"a", "b", "\x1f"}, {"a", "b", "\x7f"}, {"a", "b", "é"}, {"a", "b", strings.Repeat("n", 33)}, {"a", "b", "c", "d", "e", "f", "g", "h", "i"}}
}

// goodLists have names that need quotes, as long as may be, as many as may be.
func goodLists() [][]string {
	return [][]string{{"a", "b"}, {" ", "b", "a"}, {"a", "b", "~"}, {"b", "a", strings.Repeat("n", 32)}, {"a", "b", "true"}, names8()}
}

// badTrees are no formulas of the future: by form, and by being too great.
func badTrees() (formless, great []api.Formula) {
	a, b := prop("a"), prop("b")
	formless = []api.Formula{
		{}, op(api.OpTrig + 1), op(255), op(api.OpAnd, a), op(api.OpNot), op(api.OpNot, a, b), op(api.OpTrue, a), {Op: api.OpTrue, Name: "a"}, {Op: api.OpProp}, prop("a\"b"), prop(strings.Repeat("n", 33)), {Op: api.OpUntil, Name: "U", Kids: []api.Formula{a, b}},
		op(api.OpYest, a), op(api.OpSince, a, b), op(api.OpAnd, a, op(api.OpOnce, b)), {Op: api.OpProp, Name: "a", Kids: []api.Formula{b}},
		row(200, api.OpNext, op(api.OpHist, a)), // too deep, too, but the form is told first
	}
	leaves := make([]api.Formula, 501)
	for i := range leaves {
		leaves[i] = a
	}
	return formless, []api.Formula{row(100, api.OpNext, a), spread(api.OpAnd, leaves...), row(5000, api.OpNot, a)}
}

// Of: R1, the errors in the chapter's order, each pair of them together.
func TestOfInOrder(t *testing.T) {
	formless, great := badTrees()
	a := prop("a")
	for _, l := range []api.Limits{synth.Default(), wide(), {}, {Nodes: -1}} {
		for _, names := range badLists() {
			wantOfRefused(t, a, names, l, api.ErrArg)
			wantOfRefused(t, formless[0], names, l, api.ErrArg)
			wantOfRefused(t, great[0], names, l, api.ErrArg)
			wantOfRefused(t, prop("z"), names, l, api.ErrArg)
		}
		for _, names := range append(goodLists(), nil) { // whether the names are lacking or not
			for _, f := range formless {
				wantOfRefused(t, f, names, l, api.ErrTreeForm)
			}
			for _, f := range great {
				wantOfRefused(t, f, names, l, api.ErrTreeBig)
			}
			for _, f := range []api.Formula{prop("z"), op(api.OpAnd, a, prop("z")), op(api.OpOr, op(api.OpTrue), prop("A")), op(api.OpUntil, prop("z"), op(api.OpFalse))} {
				wantOfRefused(t, f, names, l, api.ErrEvalProp)
			}
		}
	}
	for _, names := range goodLists() {
		if m := madeOf(t, op(api.OpUntil, a, prop("b")), names, wide()); len(m.Next) != 3 {
			t.Errorf("over %q: %+v", names, m)
		}
		wantOfRefused(t, a, names, api.Limits{}, api.ErrLimitNodes)
	}
	wantOfRefused(t, a, nil, wide(), api.ErrEvalProp)
}

// A name that simpler forms would let go is one of the formula, all the same.
func TestNamesThatMatterNot(t *testing.T) {
	f := read("a | true")
	wantOfRefused(t, f, nil, wide(), api.ErrEvalProp)
	wantOfRefused(t, f, []string{"b"}, wide(), api.ErrEvalProp)
	if m := madeOf(t, f, []string{"a"}, wide()); !same(m, machine([]string{"a"}, st(1, 0, 0))) {
		t.Errorf("%+v", m)
	}
	l := wide()
	l.Props = 0
	wantRefused(t, "a | true", l, api.ErrLimitProps, 0)
}

// Each failure is a new one.
func TestNewFailures(t *testing.T) {
	_, one := synth.Synthesize("a U", wide())
	_, other := synth.Synthesize("a U", wide())
	wantUnlike(t, one, other)
	_, one = synth.Of(prop("a"), nil, wide())
	_, other = synth.Of(prop("a"), nil, wide())
	wantUnlike(t, one, other)
}

// wantUnlike wants two errors that tell the same and are not the same thing.
func wantUnlike(t *testing.T, one, other error) {
	t.Helper()
	a, is := one.(*api.Failure)
	b, is2 := other.(*api.Failure)
	if !is || !is2 || a == b || *a != *b {
		t.Errorf("%+v and %+v", one, other)
	}
	a.At = -7
	if b.At == -7 {
		t.Error("they share memory")
	}
}

// A formula that is taken, and the same with what is not looked at.
func TestKidsThatAreNil(t *testing.T) {
	f := api.Formula{Op: api.OpUntil, Kids: []api.Formula{{Op: api.OpProp, Name: "a", Kids: []api.Formula{}}, {Op: api.OpProp, Name: "b"}}}
	if m := madeOf(t, f, ab(), wide()); !same(m, made(t, "a U b", wide())) || tree.Size(f) != 3 {
		t.Errorf("%+v", m)
	}
}
