package syntax_test

import (
	"errors"
	"fmt"
	"slices"
	"testing"

	"augur/api"
	"augur/syntax"
)

// The calls as the chapter lists them.
var (
	_ func(text string, l api.Limits) (api.Formula, error) = syntax.Parse
	_ func(text string, l api.Limits) (api.Formula, error) = syntax.ParsePast
	_ func(f api.Formula) (string, api.Errno)              = syntax.Print
)

// call is one of the two that read.
type call struct {
	name string
	read func(string, api.Limits) (api.Formula, error)
	past bool
}

var (
	parse     = call{"Parse", syntax.Parse, false}
	parsePast = call{"ParsePast", syntax.ParsePast, true}
	calls     = []call{parse, parsePast}
)

// sign is a row of the chapter's table of operators, or a word that is a formula.
type sign struct {
	text  string
	op    api.Op
	kids  int
	level int
	right bool
	time  string // empty: of both
}

// table is the chapter's, by hand.
var table = []sign{
	{"true", api.OpTrue, 0, 0, false, ""}, {"false", api.OpFalse, 0, 0, false, ""},
	{"!", api.OpNot, 1, 1, false, ""},
	{"X", api.OpNext, 1, 1, false, "future"}, {"F", api.OpEvent, 1, 1, false, "future"}, {"G", api.OpAlways, 1, 1, false, "future"},
	{"Y", api.OpYest, 1, 1, false, "past"}, {"Z", api.OpWeakYest, 1, 1, false, "past"}, {"O", api.OpOnce, 1, 1, false, "past"}, {"H", api.OpHist, 1, 1, false, "past"},
	{"U", api.OpUntil, 2, 2, true, "future"}, {"R", api.OpRelease, 2, 2, true, "future"}, {"W", api.OpWeak, 2, 2, true, "future"}, {"M", api.OpStrong, 2, 2, true, "future"},
	{"S", api.OpSince, 2, 2, true, "past"}, {"T", api.OpTrig, 2, 2, true, "past"},
	{"&", api.OpAnd, 2, 3, false, ""}, {"|", api.OpOr, 2, 4, false, ""}, {"->", api.OpImp, 2, 5, true, ""}, {"<->", api.OpIff, 2, 6, false, ""},
}

func ofTime(s sign, past bool) bool {
	return s.time == "" || (s.time == "past") == past
}

// signsOf are those of a time that have so many kids.
func signsOf(past bool, kids int) []sign {
	return slices.DeleteFunc(slices.Clone(table), func(s sign) bool { return s.kids != kids || !ofTime(s, past) })
}

// byText and byOp are a row of the table; of a name, or a bracket, there is none.
func byText(text string) (sign, bool) {
	i := slices.IndexFunc(table, func(s sign) bool { return s.text == text })
	if i < 0 {
		return sign{}, false
	}
	return table[i], true
}

func byOp(o api.Op) sign {
	if i := slices.IndexFunc(table, func(s sign) bool { return s.op == o }); i >= 0 {
		return table[i]
	}
	return sign{}
}

func op(o api.Op, kids ...api.Formula) api.Formula { return api.Formula{Op: o, Kids: kids} }
func prop(name string) api.Formula                 { return api.Formula{Op: api.OpProp, Name: name} }
func not(f api.Formula) api.Formula                { return op(api.OpNot, f) }
func and(f, g api.Formula) api.Formula             { return op(api.OpAnd, f, g) }
func until(f, g api.Formula) api.Formula           { return op(api.OpUntil, f, g) }

var a, b, c = prop("a"), prop("b"), prop("c")

func row(n int, o api.Op, f api.Formula) api.Formula {
	for range n {
		f = op(o, f)
	}
	return f
}

// shape tells a tree apart from all others.
func shape(f api.Formula) string {
	s := fmt.Sprintf("%d%q(", f.Op, f.Name)
	for _, kid := range f.Kids {
		s += shape(kid)
	}
	return s + ")"
}

func same(f, g api.Formula) bool { return shape(f) == shape(g) }

// size, depth and names are the chapter's, found in another way than the program's.
func size(f api.Formula) int {
	n := 1
	for _, kid := range f.Kids {
		n += size(kid)
	}
	return n
}

func depth(f api.Formula) int {
	n := 0
	for _, kid := range f.Kids {
		n = max(n, depth(kid))
	}
	return n + 1
}

func names(f api.Formula) []string {
	var list []string
	if f.Op == api.OpProp {
		list = append(list, f.Name)
	}
	for _, kid := range f.Kids {
		list = append(list, names(kid)...)
	}
	slices.Sort(list)
	return slices.Compact(list)
}

func enough() api.Limits {
	return api.Limits{Text: api.MaxText, Nodes: api.MaxNodes, Depth: api.MaxDepth, Props: api.MaxProps}
}

// reads wants a text to be that formula.
func reads(t *testing.T, k call, text string, l api.Limits, want api.Formula) {
	t.Helper()
	f, err := k.read(text, l)
	if err != nil || !same(f, want) {
		t.Errorf("%s(%.60q): %.200s, %v, want %.200s", k.name, text, shape(f), err, shape(want))
	}
}

// fails wants an *api.Failure with all that it tells, and a formula of noughts.
func fails(t *testing.T, k call, text string, l api.Limits, number api.Errno, at int) {
	t.Helper()
	f, err := k.read(text, l)
	if f.Op != 0 || f.Name != "" || len(f.Kids) != 0 {
		t.Errorf("%s(%.60q): %.200s beside an error", k.name, text, shape(f))
	}
	failure, ok := err.(*api.Failure)
	if !ok || *failure != (api.Failure{Call: k.name, Err: number, At: at}) {
		t.Errorf("%s(%.60q): %+v, want error %d at %d", k.name, text, err, number, at)
	}
}

// prints wants a formula to be written so.
func prints(t *testing.T, f api.Formula, want string) {
	t.Helper()
	if text, err := syntax.Print(f); text != want || err != api.OK {
		t.Errorf("Print of %.200s: %.200q, %d, want %.200q", shape(f), text, err, want)
	}
}

// draw is a source of numbers that are always the same.
type draw uint32

func (d *draw) below(n int) int {
	*d = *d*1664525 + 1013904223
	return int(*d>>8) % n
}

// Bare names, those that are quoted for a reason each, and some of which are texts of operators.
var someNames = []string{"a", "b_1", "Xa", "X", "true", "U", "(", ")", "a b", "&", " ", "9"}

// formula is one of a time, of some depth, of at most 8 names out of someNames.
func (d *draw) formula(depth int, past bool) api.Formula {
	first := d.below(len(someNames) - api.MaxProps + 1)
	return d.over(someNames[first:first+api.MaxProps], depth, past)
}

func (d *draw) over(names []string, depth int, past bool) api.Formula {
	kids := d.below(3)
	if depth == 1 {
		kids = 0
	}
	if kids == 0 && d.below(4) > 0 {
		return prop(names[d.below(len(names))])
	}
	signs := signsOf(past, kids)
	f := api.Formula{Op: signs[d.below(len(signs))].op}
	for range kids {
		f.Kids = append(f.Kids, d.over(names, depth-1, past))
	}
	return f
}

// someFormulas are of each shape of depth 3 (leaves alike), and some deeper ones.
func someFormulas(past bool) []api.Formula {
	var list []api.Formula
	kids := append(shapes(past, []api.Formula{a}), a, op(api.OpTrue), prop("a b"))
	list = append(list, kids...)
	list = append(list, shapes(past, kids)...)
	d := draw(7)
	for i := range 600 {
		list = append(list, d.formula(4+i%5, past))
	}
	return list
}

// shapes are all formulas of a time whose kids are of these.
func shapes(past bool, kids []api.Formula) []api.Formula {
	var list []api.Formula
	for _, x := range kids {
		for _, s := range signsOf(past, 1) {
			list = append(list, op(s.op, x))
		}
		for _, y := range kids {
			for _, s := range signsOf(past, 2) {
				list = append(list, op(s.op, x, y))
			}
		}
	}
	return list
}

// The section "Errors": numbers as the chapter lists them; limits and operators as api has them.
func TestNumbers(t *testing.T) {
	for number, want := range map[api.Errno]int{
		api.ErrSyntax: 40, api.ErrLimitText: 41, api.ErrLimitNodes: 42, api.ErrLimitDepth: 43, api.ErrLimitProps: 44,
		api.ErrLexSign: 20, api.ErrLexQuote: 21, api.ErrLexName: 22, api.ErrTreeForm: 30, api.ErrTreeBig: 31,
	} {
		if int(number) != want {
			t.Errorf("%d, want %d", number, want)
		}
	}
	if api.MaxText != 65536 || api.MaxNodes != 1000 || api.MaxDepth != 100 || api.MaxProps != 8 {
		t.Error("limits are others")
	}
	ops := []api.Op{
		api.OpTrue, api.OpFalse, api.OpProp, api.OpNot, api.OpAnd, api.OpOr, api.OpImp, api.OpIff,
		api.OpNext, api.OpEvent, api.OpAlways, api.OpUntil, api.OpRelease, api.OpWeak, api.OpStrong,
		api.OpYest, api.OpWeakYest, api.OpOnce, api.OpHist, api.OpSince, api.OpTrig,
	}
	for i, o := range ops {
		if int(o) != i+1 {
			t.Errorf("an operator has the number %d, want %d", o, i+1)
		}
	}
}

// A Go error wraps its number: errors.Is and errors.As find it.
func TestFailureIsFound(t *testing.T) {
	for _, k := range calls {
		_, err := k.read("a b", enough())
		var failure *api.Failure
		var number api.Errno
		if !errors.Is(err, api.ErrSyntax) || errors.Is(err, api.ErrLimitText) || !errors.As(err, &failure) || !errors.As(err, &number) || number != api.ErrSyntax {
			t.Errorf("%s: %v", k.name, err)
		}
		if err.Error() != k.name+": error 40" {
			t.Errorf("%s: %q", k.name, err.Error())
		}
	}
}

// R2: what came out is the asker's own, each Kids list by itself, and the room behind it.
func TestNewMemory(t *testing.T) {
	text := "!a & (X b U true) & (X b U true)"
	want, err := syntax.Parse(text, enough())
	if err != nil {
		t.Fatal(err)
	}
	told := shape(want)
	other, _ := syntax.Parse(text, enough())
	spoil(&other)
	if shape(want) != told {
		t.Error("two formulas share memory")
	}
	one, _ := syntax.Parse(text, enough())
	for i := range one.Kids {
		kept := shape(one.Kids[1-i])
		spoil(&one.Kids[i])
		if shape(one.Kids[1-i]) != kept {
			t.Error("two kids share memory")
		}
		one, _ = syntax.Parse(text, enough())
	}
	reads(t, parse, text, enough(), want)
}

// spoil writes over a tree, and behind its lists.
func spoil(f *api.Formula) {
	for i := range f.Kids {
		spoil(&f.Kids[i])
		f.Kids[i].Name = "spoilt"
	}
	_ = append(f.Kids, prop("spoilt"), prop("spoilt"), prop("spoilt"))
}

// R2: what is printed stays as it is, and is not kept.
func TestPrintChangesNothing(t *testing.T) {
	f := op(api.OpImp, until(a, not(b)), and(c, prop("a b")))
	told := shape(f)
	text, _ := syntax.Print(f)
	if shape(f) != told {
		t.Error("it is changed")
	}
	spoil(&f)
	if text != `a U !b -> c & "a b"` {
		t.Errorf("%q", text)
	}
}
