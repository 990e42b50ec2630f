package syntax_test

import (
	"slices"
	"strings"
	"testing"

	"augur/api"
)

// The chapter's examples of what is no formula, and their like.
func TestErrors(t *testing.T) {
	for _, x := range []struct {
		text   string
		number api.Errno
		at     int
	}{
		{"a b", api.ErrSyntax, 2}, {"a &", api.ErrSyntax, 3}, {"(a", api.ErrSyntax, 2}, {"", api.ErrSyntax, 0},
		{"a & $", api.ErrLexSign, 4}, {"a b $", api.ErrSyntax, 2}, {"$", api.ErrLexSign, 0}, {"a $", api.ErrLexSign, 2}, {"(a) $ b c", api.ErrLexSign, 4},
		{`a & "`, api.ErrLexQuote, 4}, {`a & ""`, api.ErrLexName, 4}, {`a "b" "`, api.ErrSyntax, 2}, {"a -", api.ErrLexSign, 2}, {"a & é", api.ErrLexSign, 4},
		{"a & " + strings.Repeat("b", api.MaxName+1), api.ErrLexName, 4}, {"a b " + strings.Repeat("b", api.MaxName+1), api.ErrSyntax, 2},
		{" \t\r\n ", api.ErrSyntax, 5}, {"a & \n", api.ErrSyntax, 5}, {"(a ", api.ErrSyntax, 3}, {"!", api.ErrSyntax, 1},
		{"a)", api.ErrSyntax, 1}, {"()", api.ErrSyntax, 1}, {")", api.ErrSyntax, 0}, {"(a))", api.ErrSyntax, 3}, {"(a & b) c", api.ErrSyntax, 8},
		{"& a", api.ErrSyntax, 0}, {"a & & b", api.ErrSyntax, 4}, {"a ! b", api.ErrSyntax, 2}, {"a (b)", api.ErrSyntax, 2}, {"(a)(b)", api.ErrSyntax, 3},
		{"true false", api.ErrSyntax, 5}, {"true true", api.ErrSyntax, 5}, {"a true", api.ErrSyntax, 2}, {"! & a", api.ErrSyntax, 2}, {"(a & )", api.ErrSyntax, 5}, {"(! )", api.ErrSyntax, 3},
		{`a "&" b`, api.ErrSyntax, 2}, {`a "->" b`, api.ErrSyntax, 2}, {`"(" a ")"`, api.ErrSyntax, 4}, {`(a ")"`, api.ErrSyntax, 3}, {`"!" a`, api.ErrSyntax, 4}, {`(a "`, api.ErrLexQuote, 3},
	} {
		for _, k := range calls {
			fails(t, k, x.text, enough(), x.number, x.at)
		}
	}
}

// The words of the other time are no tokens with which a formula goes on, nor begins.
func TestOtherTime(t *testing.T) {
	for _, s := range table {
		for _, k := range calls {
			switch {
			case ofTime(s, k.past):
			case s.kids == 1:
				fails(t, k, s.text+" a", enough(), api.ErrSyntax, 0)
				fails(t, k, "a & "+s.text+" $", enough(), api.ErrSyntax, 4)
			default:
				fails(t, k, "a "+s.text+" b", enough(), api.ErrSyntax, 2)
				fails(t, k, "(a "+s.text+" $", enough(), api.ErrSyntax, 3)
			}
		}
	}
}

// What a token is to the grammar: a leaf, an operator ahead (!) or between (&), a bracket; ? what no formula goes on with; $ what is no token.
func class(text string, past bool) string {
	s, is := byText(text)
	switch {
	case text == "(" || text == ")" || text == "$":
		return text
	case !is:
		return "a"
	case !ofTime(s, past):
		return "?"
	}
	return []string{"a", "!", "&"}[s.kids]
}

// sentences are all formulas as rows of classes, by their length, up to most: the grammar's rules and nothing else.
func sentences(most int) [][]string {
	by := make([][]string, most+1)
	by[1] = []string{"a"}
	for n := 2; n <= most; n++ {
		var list []string
		for _, s := range by[n-1] {
			list = append(list, "!"+s)
		}
		for _, s := range by[n-2] {
			list = append(list, "("+s+")")
		}
		for i := 1; i < n-1; i++ {
			for _, s := range by[i] {
				for _, z := range by[n-1-i] {
					list = append(list, s+"&"+z)
				}
			}
		}
		slices.Sort(list)
		by[n] = slices.Compact(list)
	}
	return by
}

// beginnings are the rows of at most so many tokens with which a formula begins, each with whether it is one.
func beginnings(most int) map[string]bool {
	begun := map[string]bool{"": false}
	// A row of brackets alone needs most to be a formula: one leaf, and as many brackets again.
	for _, list := range sentences(2*most + 1) {
		for _, s := range list {
			for n := 1; n <= min(most, len(s)); n++ {
				begun[s[:n]] = begun[s[:n]] || n == len(s)
			}
		}
	}
	return begun
}

// splits is the formula of tokens that are one: at the operator that binds least of those outside brackets, the last of a row that goes to the left, the first of one to the right.
func splits(tokens []string) api.Formula {
	at, level, deep := -1, 0, 0
	for i, text := range tokens {
		switch text {
		case "(":
			deep++
		case ")":
			deep--
		}
		if s, _ := byText(text); deep == 0 && s.kids == 2 && (s.level > level || s.level == level && !s.right) {
			at, level = i, s.level
		}
	}
	s, is := byText(tokens[0])
	switch {
	case at >= 0:
		s, _ = byText(tokens[at])
		return op(s.op, splits(tokens[:at]), splits(tokens[at+1:]))
	case tokens[0] == "(":
		return splits(tokens[1 : len(tokens)-1])
	case is && s.kids == 1:
		return op(s.op, splits(tokens[1:]))
	case is:
		return op(s.op)
	}
	return prop(strings.Trim(tokens[0], `"`))
}

// judge wants of a row of tokens what the chapter says of it.
func judge(t *testing.T, k call, tokens []string, begun map[string]bool) {
	t.Helper()
	text, row := strings.Join(tokens, " "), ""
	at := 0
	for _, token := range tokens {
		row += class(token, k.past)
		if _, goesOn := begun[row]; !goesOn {
			number := api.ErrSyntax
			if token == "$" {
				number = api.ErrLexSign
			}
			fails(t, k, text, enough(), number, at)
			return
		}
		at += len(token) + 1
	}
	if !begun[row] {
		fails(t, k, text, enough(), api.ErrSyntax, len(text))
		return
	}
	reads(t, k, text, enough(), splits(tokens))
}

// rows goes through all rows of so many tokens at most.
func rows(tokens []string, most int, visit func([]string)) {
	var row []string
	var more func()
	more = func() {
		visit(row)
		if len(row) == most {
			return
		}
		for _, t := range tokens {
			row = append(row, t)
			more()
			row = row[:len(row)-1]
		}
	}
	more()
}

// Every short text: the formula, or the error and its place.
func TestEveryShortText(t *testing.T) {
	begun := beginnings(6)
	for _, k := range calls {
		rows([]string{"a", `"U"`, `"("`, "true", "!", "X", "Y", "U", "S", "->", "<->", "(", ")", "$"}, 4, func(row []string) { judge(t, k, row, begun) })
		rows([]string{"b", "!", "&", "->", "(", ")"}, 6, func(row []string) { judge(t, k, row, begun) })
	}
}

// Each three operators between, in a row: which one takes what.
func TestRowsOfOperators(t *testing.T) {
	for _, k := range calls {
		between := signsOf(k.past, 2)
		for _, x := range between {
			for _, y := range between {
				for _, z := range between {
					tokens := []string{"a", x.text, "b", y.text, "c", z.text, "d"}
					reads(t, k, strings.Join(tokens, " "), enough(), splits(tokens))
				}
				for _, u := range signsOf(k.past, 1) {
					tokens := []string{u.text, "a", x.text, u.text, "!", "b", y.text, u.text, "(", "c", x.text, "d", ")"}
					reads(t, k, strings.Join(tokens, " "), enough(), splits(tokens))
				}
			}
		}
	}
}

// The chapter's examples of rows, as they stand there, not by the other reader.
func TestRowsByHand(t *testing.T) {
	release := func(f, g api.Formula) api.Formula { return op(api.OpRelease, f, g) }
	imp := func(f, g api.Formula) api.Formula { return op(api.OpImp, f, g) }
	iff := func(f, g api.Formula) api.Formula { return op(api.OpIff, f, g) }
	for text, want := range map[string]api.Formula{
		"a U b R c":         until(a, release(b, c)),
		"a & b & c":         and(and(a, b), c),
		"! a U b":           until(not(a), b),
		"a | b | c":         op(api.OpOr, op(api.OpOr, a, b), c),
		"a -> b -> c":       imp(a, imp(b, c)),
		"a <-> b <-> c":     iff(iff(a, b), c),
		"a <-> b -> c":      iff(a, imp(b, c)),
		"a -> b <-> c":      iff(imp(a, b), c),
		"a | b & c U X a":   op(api.OpOr, a, and(b, until(c, op(api.OpNext, a)))),
		"X!G F(a)M b W c":   op(api.OpStrong, op(api.OpNext, not(op(api.OpAlways, op(api.OpEvent, a)))), op(api.OpWeak, b, c)),
		"G(a->F \"b\")":     op(api.OpAlways, imp(a, op(api.OpEvent, b))),
		"((((a))))":         a,
		"(true)&((false))":  and(op(api.OpTrue), op(api.OpFalse)),
		`"X" U "true"`:      until(prop("X"), prop("true")),
		`"a b"&"("`:         and(prop("a b"), prop("(")),
		"!(!(!a))":          not(not(not(a))),
		"(a U b) U (a U b)": until(until(a, b), until(a, b)),
	} {
		reads(t, parse, text, enough(), want)
	}
	for text, want := range map[string]api.Formula{
		"a S b T c":   op(api.OpSince, a, op(api.OpTrig, b, c)),
		"Y Z O H !a":  op(api.OpYest, op(api.OpWeakYest, op(api.OpOnce, op(api.OpHist, not(a))))),
		"Y a & b":     and(op(api.OpYest, a), b),
		`"X" S true`:  op(api.OpSince, prop("X"), op(api.OpTrue)),
		"a T b | H c": op(api.OpOr, op(api.OpTrig, a, b), op(api.OpHist, c)),
	} {
		reads(t, parsePast, text, enough(), want)
	}
}

// However deep brackets stand in one another: what is read, and where the error is.
func TestDeepBrackets(t *testing.T) {
	const deep = 32000
	open, shut := strings.Repeat("(", deep), strings.Repeat(")", deep)
	for _, k := range calls {
		reads(t, k, open+"a"+shut, api.Limits{Text: api.MaxText, Nodes: 1, Depth: 1, Props: 1}, a)
		reads(t, k, "!"+open+"a&b"+shut+"&c", enough(), and(not(and(a, b)), c))
		fails(t, k, open, enough(), api.ErrSyntax, deep)
		fails(t, k, open+"a"+shut[1:], enough(), api.ErrSyntax, 2*deep)
		fails(t, k, open+"a"+shut+")", enough(), api.ErrSyntax, 2*deep+1)
		fails(t, k, open+"a"+shut+"$", enough(), api.ErrLexSign, 2*deep+1)
		fails(t, k, open+shut, enough(), api.ErrSyntax, deep)
	}
	const deeper = 1 << 21
	open, shut = strings.Repeat("(", deeper), strings.Repeat(")", deeper)
	fails(t, parse, open, enough(), api.ErrSyntax, deeper)
	fails(t, parse, open+"a"+shut+" b", enough(), api.ErrSyntax, 2*deeper+2)
	fails(t, parse, open+"a"+shut, enough(), api.ErrLimitText, 0)
}

// Rows of operators that are too great for a formula are read all the same, to their first error.
func TestLongRows(t *testing.T) {
	const long = 30000
	for _, k := range calls {
		for _, ahead := range []string{"!", "a&", "a->", "(a->"} {
			row := strings.Repeat(ahead, api.MaxText/8)
			fails(t, k, row, enough(), api.ErrSyntax, len(row))
			fails(t, k, row+"a b", enough(), api.ErrSyntax, len(row)+2)
			fails(t, k, row+"a b $", enough(), api.ErrSyntax, len(row)+2)
			fails(t, k, row+"$", enough(), api.ErrLexSign, len(row))
		}
		fails(t, k, strings.Repeat("!", long)+"a", enough(), api.ErrLimitNodes, 0)
		fails(t, k, strings.Repeat("a&", long)+"a", enough(), api.ErrLimitNodes, 0)
		fails(t, k, strings.Repeat("!", 1<<20)+"a", enough(), api.ErrLimitText, 0)
	}
}
