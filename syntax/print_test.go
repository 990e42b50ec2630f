package syntax_test

import (
	"strings"
	"testing"

	"augur/api"
	"augur/syntax"
)

// written is the printed form by the chapter's words: what stands in brackets is told by the levels of a kid and of what it is a kid of.
func written(f api.Formula) string {
	s := byOp(f.Op)
	kid := func(i int) string {
		below, text := byOp(f.Kids[i].Op), written(f.Kids[i])
		row := below.level == s.level && s.level >= 2
		if below.level > s.level || row && (i == 0 && s.right || i == 1 && !s.right) {
			return "(" + text + ")"
		}
		return text
	}
	switch {
	case f.Op == api.OpProp:
		return quoted(f.Name)
	case s.kids == 0:
		return s.text
	case s.text == "!":
		return "!" + kid(0)
	case s.kids == 1:
		return s.text + " " + kid(0)
	}
	return kid(0) + " " + s.text + " " + kid(1)
}

// quoted is one of someNames as a text writes it.
func quoted(name string) string {
	switch name {
	case "a", "b_1", "Xa":
		return name
	}
	return `"` + name + `"`
}

// The chapter's examples, printed and read.
func TestPrintExamples(t *testing.T) {
	for text, want := range map[string]string{
		"G(req -> F ack)": "G (req -> F ack)",
		"((a) & b) & c":   "a & b & c", "a & (b & c)": "a & (b & c)",
		"(a U b) U c": "(a U b) U c", "a U (b U c)": "a U b U c",
		"!(a & b) | X !c": "!(a & b) | X !c", "(! a) U b": "!a U b",
		"a->(b->c)": "a -> b -> c", "(a->b)->c": "(a -> b) -> c", "(a<->b)<->c": "a <-> b <-> c", "a<->(b<->c)": "a <-> (b <-> c)",
		"a U(b R c)": "a U b R c", "(a W b)M c": "(a W b) M c", "(a|b)|c": "a | b | c", "a|(b|c)": "a | (b | c)",
		"!(!(X(F(G a))))": "!!X F G a", "! true": "!true", "X(true)": "X true", "(a -> b) <-> (b | c)": "a -> b <-> b | c", "X(a U b)": "X (a U b)", "!(a U b)": "!(a U b)",
		`"a"&"X"&"a b"`: `a & "X" & "a b"`, `!"("`: `!"("`,
	} {
		f, err := syntax.Parse(text, enough())
		if err != nil {
			t.Errorf("%s: %v", text, err)
			continue
		}
		prints(t, f, want)
	}
}

// Every Print.
func TestPrint(t *testing.T) {
	for _, k := range calls {
		for _, f := range someFormulas(k.past) {
			prints(t, f, written(f))
		}
	}
	for _, name := range []string{strings.Repeat("a", api.MaxName), "_", "Z9"} {
		prints(t, prop(name), name)
	}
	for _, name := range []string{strings.Repeat(" ", api.MaxName), "false", "T", "->", "~", "1"} {
		prints(t, prop(name), `"`+name+`"`)
	}
	// R6: a list that is empty is none.
	prints(t, api.Formula{Op: api.OpTrue, Kids: []api.Formula{}}, "true")
}

// More than 8 names are printed (and are not read again).
func TestPrintManyNames(t *testing.T) {
	f := prop("p0")
	want := "p0"
	for i := 1; i < 10; i++ {
		name := "p" + string(rune('0'+i))
		f, want = and(f, prop(name)), want+" & "+name
	}
	prints(t, f, want)
	fails(t, parse, want, enough(), api.ErrLimitProps, 0)
}

// What neither Right nor RightPast takes: the error that Right tells.
func TestPrintErrors(t *testing.T) {
	wide := prop("a")
	for range 9 {
		wide = and(wide, wide) // 1023 in all, ten deep
	}
	for _, x := range []struct {
		f    api.Formula
		want api.Errno
	}{
		{api.Formula{}, api.ErrTreeForm},
		{op(api.OpNot), api.ErrTreeForm},
		{op(api.OpAnd, a), api.ErrTreeForm},
		{op(api.OpAnd, a, b, c), api.ErrTreeForm},
		{op(api.OpTrue, a), api.ErrTreeForm},
		{op(api.OpTrig+1, a), api.ErrTreeForm},
		{op(255), api.ErrTreeForm},
		{prop(""), api.ErrTreeForm},
		{prop(`a"b`), api.ErrTreeForm},
		{prop(strings.Repeat("a", api.MaxName+1)), api.ErrTreeForm},
		{api.Formula{Op: api.OpFalse, Name: "a"}, api.ErrTreeForm},
		{and(a, not(op(api.OpNot))), api.ErrTreeForm},
		{op(api.OpNext, op(api.OpYest, a)), api.ErrTreeForm},
		{and(op(api.OpSince, a, b), until(a, b)), api.ErrTreeForm},
		{wide, api.ErrTreeBig},
		{row(api.MaxDepth, api.OpNot, a), api.ErrTreeBig},
		{row(api.MaxDepth, api.OpNext, a), api.ErrTreeBig},
		// Of the past and too great: Right tells that it is of no right form.
		{row(api.MaxDepth, api.OpYest, a), api.ErrTreeForm},
		{op(api.OpYest, wide), api.ErrTreeForm},
	} {
		if text, err := syntax.Print(x.f); text != "" || err != x.want {
			t.Errorf("%.100s: %q, %d, want %d", shape(x.f), text, err, x.want)
		}
	}
}

// As great and as deep as a formula may be.
func TestPrintGreatest(t *testing.T) {
	prints(t, row(api.MaxDepth-1, api.OpNext, a), strings.Repeat("X ", 99)+"a")
	prints(t, row(api.MaxDepth-1, api.OpHist, a), strings.Repeat("H ", 99)+"a")
	f := a
	for range api.MaxDepth - 1 {
		f = until(f, a)
	}
	prints(t, f, strings.Repeat("(", 98)+"a"+strings.Repeat(" U a)", 98)+" U a")
	// The longest text of all: as many names as can be, each as long and quoted.
	long := prop(strings.Repeat("- ", api.MaxName/2))
	great := not(spread(500, long))
	text, err := syntax.Print(great)
	if err != api.OK || size(great) != api.MaxNodes {
		t.Fatalf("%d, %d", size(great), err)
	}
	reads(t, parse, text, enough(), great)
	reads(t, parsePast, text, enough(), great)
}

// spread has n leaves and one less over them, and no great depth.
func spread(n int, leaf api.Formula) api.Formula {
	if n == 1 {
		return leaf
	}
	return op(api.OpImp, spread(n/2, leaf), spread(n-n/2, leaf))
}
