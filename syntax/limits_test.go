package syntax_test

import (
	"fmt"
	"math"
	"strings"
	"testing"

	"augur/api"
	"augur/syntax"
)

// justEnough are the least limits of a formula and its text.
func justEnough(f api.Formula, text string) api.Limits {
	return api.Limits{Text: len(text), Nodes: size(f), Depth: depth(f), Props: len(names(f))}
}

// lesser are these limits, one of them less by one; each with the error of that one.
func lesser(l api.Limits) map[api.Errno]api.Limits {
	text, nodes, deep, props := l, l, l, l
	text.Text--
	nodes.Nodes--
	deep.Depth--
	props.Props--
	return map[api.Errno]api.Limits{api.ErrLimitText: text, api.ErrLimitNodes: nodes, api.ErrLimitDepth: deep, api.ErrLimitProps: props}
}

// T2: a limit is refused just if its count is greater.
func TestJustEnough(t *testing.T) {
	for _, k := range calls {
		for _, f := range someFormulas(k.past) {
			text, _ := syntax.Print(f)
			l := justEnough(f, text)
			reads(t, k, text, l, f)
			for number, less := range lesser(l) {
				fails(t, k, text, less, number, 0)
			}
		}
	}
}

// The chapter's examples.
func TestLimitsExamples(t *testing.T) {
	one := enough()
	one.Nodes = 2
	fails(t, parse, "a & b", one, api.ErrLimitNodes, 0)
	reads(t, parse, "((((a))))", api.Limits{Text: 9, Nodes: 1, Depth: 1, Props: 1}, a)
	one = enough()
	one.Props = 1
	reads(t, parse, "a & a", one, and(a, a))
	fails(t, parse, "a & b", one, api.ErrLimitProps, 0)
}

// R1: the error that is named first; the grammar's ahead of all limits.
func TestOrderOfLimits(t *testing.T) {
	for _, k := range calls {
		none := api.Limits{}
		fails(t, k, "a b", none, api.ErrSyntax, 2)
		fails(t, k, "a & $", none, api.ErrLexSign, 4)
		fails(t, k, strings.Repeat(" ", api.MaxText+1), enough(), api.ErrSyntax, api.MaxText+1)
		for i, number := range []api.Errno{api.ErrLimitText, api.ErrLimitNodes, api.ErrLimitDepth, api.ErrLimitProps} {
			limits := [4]int{}
			for j := range i {
				limits[j] = 100
			}
			fails(t, k, "a & b", api.Limits{Text: limits[0], Nodes: limits[1], Depth: limits[2], Props: limits[3]}, number, 0)
		}
		reads(t, k, "true", api.Limits{Text: 4, Nodes: 1, Depth: 1}, op(api.OpTrue))
	}
}

// Below nought nothing is within; the greatest numbers are as api's own limits.
func TestOddLimits(t *testing.T) {
	for _, k := range calls {
		for _, n := range []int{-1, math.MinInt} {
			fails(t, k, "true", api.Limits{Text: n, Nodes: 9, Depth: 9, Props: 9}, api.ErrLimitText, 0)
			fails(t, k, "true", api.Limits{Text: 9, Nodes: n, Depth: 9, Props: 9}, api.ErrLimitNodes, 0)
			fails(t, k, "true", api.Limits{Text: 9, Nodes: 9, Depth: n, Props: 9}, api.ErrLimitDepth, 0)
			fails(t, k, "true", api.Limits{Text: 9, Nodes: 9, Depth: 9, Props: n}, api.ErrLimitProps, 0)
		}
		reads(t, k, "true", api.Limits{Text: math.MaxInt, Nodes: math.MaxInt, Depth: math.MaxInt, Props: math.MaxInt}, op(api.OpTrue))
	}
}

// The other limits are not looked at.
func TestOtherLimits(t *testing.T) {
	l := enough()
	l.Splits, l.Tableau, l.States = -1, math.MinInt, -5
	for _, k := range calls {
		reads(t, k, "a | b", l, op(api.OpOr, a, b))
	}
}

// wide has n leaves and one less over them, and no great depth; every leaf another one of the names, in turn.
func wide(n, first, unlike int) string {
	if n == 1 {
		return fmt.Sprint("p", first%unlike)
	}
	return "(" + wide(n/2, first, unlike) + "|" + wide(n-n/2, first+n/2, unlike) + ")"
}

// api's own limits hold whatever l is, and not below.
func TestOwnLimits(t *testing.T) {
	above := api.Limits{Text: math.MaxInt, Nodes: math.MaxInt, Depth: math.MaxInt, Props: math.MaxInt}
	one := enough()
	one.Text++
	one.Nodes++
	one.Depth++
	one.Props++
	for _, k := range calls {
		for _, l := range []api.Limits{enough(), above, one} {
			for text, number := range map[string]api.Errno{
				strings.Repeat(" ", api.MaxText-1) + "a": api.OK,
				strings.Repeat(" ", api.MaxText) + "a":   api.ErrLimitText,
				"a" + strings.Repeat("\n", api.MaxText):  api.ErrLimitText,
				"!" + wide(500, 0, 3):                    api.OK,
				wide(500, 0, 3):                          api.OK,
				"!!" + wide(500, 0, 3):                   api.ErrLimitNodes,
				wide(501, 0, 3):                          api.ErrLimitNodes,
				strings.Repeat("!", 99) + "a":            api.OK,
				strings.Repeat("!", 100) + "a":           api.ErrLimitDepth,
				strings.Repeat("a->", 99) + "a":          api.OK,
				strings.Repeat("a->", 100) + "a":         api.ErrLimitDepth,
				strings.Repeat("a&", 100) + "a":          api.ErrLimitDepth,
				wide(8, 0, 8):                            api.OK,
				wide(300, 0, 8):                          api.OK,
				wide(9, 0, 9):                            api.ErrLimitProps,
				wide(300, 0, 9):                          api.ErrLimitProps,
			} {
				if number != api.OK {
					fails(t, k, text, l, number, 0)
				} else if f, err := k.read(text, l); err != nil || f.Op == 0 {
					t.Errorf("%.20q: %v, %v", text, f.Op, err)
				}
			}
		}
	}
}
