package syntax_test

import (
	"slices"
	"strings"
	"testing"

	"augur/api"
	"augur/lex"
	"augur/syntax"
)

// THERE AND BACK: printed and read it is the formula; printed again, the same text.
func TestThereAndBack(t *testing.T) {
	for _, k := range calls {
		for _, f := range someFormulas(k.past) {
			text, err := syntax.Print(f)
			if err != api.OK {
				t.Fatalf("%s: %d", shape(f), err)
			}
			reads(t, k, text, justEnough(f, text), f)
			back, _ := k.read(text, enough())
			prints(t, back, text)
		}
	}
}

// Print of Parse is a fixed point, of texts that no Print has written: every short row of brackets, leaves and operators that is a formula.
func TestFixedPoint(t *testing.T) {
	for _, k := range calls {
		for _, list := range sentences(9) {
			for n, s := range list {
				fixed(t, k, spelt(s, signsOf(k.past, 2), n))
			}
		}
	}
}

// spelt is a row of classes with one of these operators for each that stands between, in turn.
func spelt(s string, between []sign, n int) string {
	var text strings.Builder
	for _, class := range s {
		if class != '&' {
			text.WriteRune(class)
			continue
		}
		text.WriteString(" " + between[n%len(between)].text + " ")
		n++
	}
	return text.String()
}

// fixed wants a text to be a formula whose printed form stays as it is.
func fixed(t *testing.T, k call, text string) {
	t.Helper()
	f, err := k.read(text, enough())
	if err != nil {
		t.Fatalf("%q: %v", text, err)
	}
	once, _ := syntax.Print(f)
	reads(t, k, once, enough(), f)
	again, _ := k.read(once, enough())
	prints(t, again, once)
}

// tokensOf are a text's tokens as texts that are read again.
func tokensOf(t *testing.T, text string) []string {
	t.Helper()
	list, err, _ := lex.Tokens(text)
	if err != api.OK {
		t.Fatalf("%q: %d", text, err)
	}
	var texts []string
	for _, token := range list[:len(list)-1] {
		if token.Kind == api.TokenName {
			texts = append(texts, `"`+token.Text+`"`)
		} else {
			texts = append(texts, token.Text)
		}
	}
	return texts
}

// pairs are the places of brackets that belong together.
func pairs(tokens []string) [][2]int {
	var list [][2]int
	var open []int
	for i, text := range tokens {
		switch text {
		case "(":
			open = append(open, i)
		case ")":
			list = append(list, [2]int{open[len(open)-1], i})
			open = open[:len(open)-1]
		}
	}
	return list
}

// No bracket of a printed form can go: without a pair it is another formula.
func TestNoBracketCanGo(t *testing.T) {
	seen := 0
	for _, k := range calls {
		for _, f := range someFormulas(k.past) {
			text, _ := syntax.Print(f)
			tokens := tokensOf(t, text)
			for _, p := range pairs(tokens) {
				seen++
				without := slices.Delete(slices.Clone(tokens), p[1], p[1]+1)
				without = slices.Delete(without, p[0], p[0]+1)
				other, err := k.read(strings.Join(without, " "), enough())
				if err == nil && same(other, f) {
					t.Errorf("%q: the brackets %v can go", text, p)
				}
			}
		}
	}
	if seen < 1000 {
		t.Errorf("%d pairs of brackets", seen)
	}
}

// Blanks between tokens change no formula; where two signs meet, there may be none.
func TestBlanks(t *testing.T) {
	blanks := []string{" ", "\t", "\n", "\r", "  ", " \r\n\t "}
	d := draw(3)
	for _, k := range calls {
		for _, f := range someFormulas(k.past) {
			text, _ := syntax.Print(f)
			spread, dense := "", ""
			for _, token := range tokensOf(t, text) {
				spread += blanks[d.below(len(blanks))] + token
				if isWordy(token) && dense != "" && isWordy(dense[len(dense)-1:]) {
					dense += " "
				}
				dense += token
			}
			reads(t, k, spread+blanks[d.below(len(blanks))], enough(), f)
			reads(t, k, dense, enough(), f)
		}
	}
}

// isWordy tells whether a text begins as words and bare names do.
func isWordy(text string) bool {
	b := text[0] | 0x20
	return b >= 'a' && b <= 'z'
}

// bracketed writes each formula in brackets, as many pairs as d says, one at least around those that have kids.
func bracketed(d *draw, f api.Formula) string {
	s := byOp(f.Op)
	n := d.below(3)
	text := s.text
	switch len(f.Kids) {
	case 1:
		text += " " + bracketed(d, f.Kids[0])
		n++
	case 2:
		text = bracketed(d, f.Kids[0]) + text + bracketed(d, f.Kids[1])
		n++
	}
	if f.Op == api.OpProp {
		text = `"` + f.Name + `"`
	}
	return " " + strings.Repeat("(", n) + text + strings.Repeat(")", n) + " "
}

// Brackets around a formula change none.
func TestBrackets(t *testing.T) {
	d := draw(5)
	for _, k := range calls {
		for _, f := range someFormulas(k.past) {
			reads(t, k, bracketed(&d, f), enough(), f)
			text, _ := syntax.Print(f)
			reads(t, k, "(("+text+"))", enough(), f)
			// A printed kid may have brackets that it does not need.
			tokens := tokensOf(t, text)
			for _, p := range pairs(tokens) {
				more := slices.Insert(slices.Clone(tokens), p[1], ")")
				more = slices.Insert(more, p[0], "(")
				reads(t, k, strings.Join(more, " "), enough(), f)
			}
		}
	}
}

// A limit counts no brackets and no blanks but as bytes.
func TestLimitsCountNoBrackets(t *testing.T) {
	d := draw(9)
	for _, k := range calls {
		for _, f := range someFormulas(k.past) {
			text := bracketed(&d, f)
			l := justEnough(f, text)
			reads(t, k, text, l, f)
			for number, less := range lesser(l) {
				fails(t, k, text, less, number, 0)
			}
		}
	}
}
