package synth_test

import (
	"errors"
	"fmt"
	"slices"
	"strings"
	"testing"

	"augur/api"
	"augur/moore"
	"augur/syntax"
	"augur/synth"
	"augur/tree"
)

// The calls as the chapter lists them.
var (
	_ func() api.Limits                                                = synth.Default
	_ func(string, api.Limits) (api.Moore, error)                      = synth.Synthesize
	_ func(api.Formula, []string, api.Limits) (api.Moore, error)       = synth.Of
	_ func(string, api.Limits) (synth.Counts, bool)                    = synth.Count
	_ func(nodes, props int) api.Limits                                = synth.Enough
	_ func(api.Limits) *synth.Cache                                    = synth.NewCache
	_ func(*synth.Cache, string) (api.Moore, error)                    = (*synth.Cache).Get
	_ func(*synth.Cache) int                                           = (*synth.Cache).Len
	_ func(*synth.Cache) int                                           = (*synth.Cache).Made
	_ func(*synth.Cache, int, ...string) ([]api.Moore, []error)        = (*synth.Cache).All
	_ struct{ Text, Nodes, Depth, Props, Splits, Tableau, States int } = synth.Counts{}
)

func TestNumbers(t *testing.T) {
	for _, c := range []struct {
		err  api.Errno
		want int
	}{
		{api.ErrArg, 1}, {api.ErrLexSign, 20}, {api.ErrLexQuote, 21}, {api.ErrLexName, 22}, {api.ErrTreeForm, 30}, {api.ErrTreeBig, 31}, {api.ErrSyntax, 40}, {api.ErrLimitText, 41},
		{api.ErrLimitNodes, 42}, {api.ErrLimitDepth, 43}, {api.ErrLimitProps, 44}, {api.ErrEvalProp, 60}, {api.ErrLimitTableau, 92}, {api.ErrLimitSplits, 93}, {api.ErrLimitStates, 131},
	} {
		if int(c.err) != c.want {
			t.Errorf("error %d, want %d", int(c.err), c.want)
		}
	}
}

func prop(name string) api.Formula                 { return api.Formula{Op: api.OpProp, Name: name} }
func op(o api.Op, kids ...api.Formula) api.Formula { return api.Formula{Op: o, Kids: kids} }

func ab() []string     { return []string{"a", "b"} }
func names8() []string { return strings.Split("a b c d e f g h", " ") }

// wide are limits that bound next to nothing.
func wide() api.Limits {
	return api.Limits{Text: api.MaxText, Nodes: api.MaxNodes, Depth: api.MaxDepth, Props: api.MaxProps, Splits: api.MaxNodes, Tableau: 20000, States: 20000}
}

// read is the formula of a text.
func read(text string) api.Formula {
	f, err := syntax.Parse(text, wide())
	if err != nil {
		panic(text + ": " + err.Error())
	}
	return f
}

// told is a formula's text, if it has one.
func told(f api.Formula) string {
	if text, err := syntax.Print(f); err == api.OK {
		return text
	}
	return fmt.Sprintf("%+v", f)
}

// row is o so many times in a row, ahead of f.
func row(n int, o api.Op, f api.Formula) api.Formula {
	for range n {
		f = op(o, f)
	}
	return f
}

// spread has these leaves and one less of o over them, and no great depth.
func spread(o api.Op, leaves ...api.Formula) api.Formula {
	if len(leaves) == 1 {
		return leaves[0]
	}
	half := len(leaves) / 2
	return op(o, spread(o, leaves[:half]...), spread(o, leaves[half:]...))
}

// draw is a source of numbers that are always the same.
type draw uint32

func (d *draw) below(n int) int {
	*d = *d*1664525 + 1013904223
	return int(*d>>8) % n
}

// formula is one of at most that depth, over those names.
func (d *draw) formula(depth int, names ...string) api.Formula {
	if kind := d.below(6); depth == 1 || kind == 0 {
		if d.below(8) == 0 {
			return op(api.OpTrue + api.Op(d.below(2)))
		}
		return prop(names[d.below(len(names))])
	}
	o := api.OpNot + api.Op(d.below(int(api.OpStrong-api.OpNot)+1))
	switch o {
	case api.OpNot, api.OpNext, api.OpEvent, api.OpAlways:
		return op(o, d.formula(depth-1, names...))
	}
	return op(o, d.formula(depth-1, names...), d.formula(depth-1, names...))
}

// someFormulas are some over a and b.
func someFormulas(n, depth int) []api.Formula {
	d := draw(n)
	list := make([]api.Formula, n)
	for i := range list {
		list[i] = d.formula(depth, "a", "b")
	}
	return list
}

// texts are formulas that people would write.
func texts() []string {
	return []string{"true", "false", "a", "!a", "a & !a", "a | !a", "X a", "X X (a & b)", "a U b", "a R b", "a W b", "a M b", "G a", "F b", "!F b", "G F a", "F G a", "G (a -> F b)", "G (a -> X b)", "G F a & G F b", "G F a & G b", "!(a U X b)", "G (a <-> X !a)", "(X a) <-> (X b)", "F (a & X F b)", "G F a & F G !a",
		"(a U b) & G !b", "b | (a & X (a U b))", "G (a -> X (!a U b))", "F a -> (!b U a)", "a -> G b", "F (a & X X X b)", "(a U b) U a", "G (a | X a) & F b"}
}

func same(a, b api.Moore) bool {
	return slices.Equal(a.Props, b.Props) && slices.Equal(a.Out, b.Out) && slices.EqualFunc(a.Next, b.Next, slices.Equal)
}

func isZero(m api.Moore) bool { return len(m.Props) == 0 && len(m.Next) == 0 && len(m.Out) == 0 }

// state is what a state says, and where it goes by each letter.
type state struct {
	out  api.Verdict
	next []int
}

func st(out api.Verdict, next ...int) state { return state{out, next} }

func machine(names []string, states ...state) api.Moore {
	m := api.Moore{Props: names}
	for _, s := range states {
		m.Next = append(m.Next, s.next)
		m.Out = append(m.Out, s.out)
	}
	return m
}

// made is what Synthesize makes of a text, which it has to take.
func made(t *testing.T, text string, l api.Limits) api.Moore {
	t.Helper()
	m, err := synth.Synthesize(text, l)
	if err != nil || moore.Check(m) != api.OK {
		t.Fatalf("Synthesize(%.200q, %+v): %.200s, %v", text, l, fmt.Sprint(m), err)
	}
	return m
}

// madeOf is what Of makes of a formula.
func madeOf(t *testing.T, f api.Formula, names []string, l api.Limits) api.Moore {
	t.Helper()
	m, err := synth.Of(f, names, l)
	if err != nil || moore.Check(m) != api.OK {
		t.Fatalf("Of(%.200s, %q, %+v): %.200s, %v", told(f), names, l, fmt.Sprint(m), err)
	}
	return m
}

// wantFailure wants an error that tells this of a call, and nothing beside it.
func wantFailure(t *testing.T, who string, m api.Moore, err error, call string, number api.Errno, at int) {
	t.Helper()
	failure, is := err.(*api.Failure)
	if !is || *failure != (api.Failure{Call: call, Err: number, At: at}) || !isZero(m) {
		t.Fatalf("%s: %.200s, %+v; want %s, %v, %d", who, fmt.Sprint(m), err, call, number, at)
	}
	var found *api.Failure
	var none api.Errno
	if !errors.Is(err, number) || errors.Is(err, api.OK) || !errors.As(err, &found) || found != failure || !errors.As(err, &none) || none != number {
		t.Fatalf("%s: what errors.Is and errors.As find in %+v", who, err)
	}
}

// wantRefused wants Synthesize to refuse a text, and Count to know it.
func wantRefused(t *testing.T, text string, l api.Limits, number api.Errno, at int) {
	t.Helper()
	m, err := synth.Synthesize(text, l)
	wantFailure(t, fmt.Sprintf("Synthesize(%.200q, %+v)", text, l), m, err, "Synthesize", number, at)
	if c, ok := synth.Count(text, l); ok || c != (synth.Counts{}) {
		t.Fatalf("Count(%.200q, %+v): %+v, %v", text, l, c, ok)
	}
}

// wantOfRefused wants Of to refuse a formula.
func wantOfRefused(t *testing.T, f api.Formula, names []string, l api.Limits, number api.Errno) {
	t.Helper()
	m, err := synth.Of(f, names, l)
	wantFailure(t, fmt.Sprintf("Of(%.200s, %q, %+v)", told(f), names, l), m, err, "Of", number, 0)
}

// The chapter's examples.
func TestExamples(t *testing.T) {
	l := synth.Default()
	until := machine(ab(), st(3, 1, 0, 2, 2), st(2, 1, 1, 1, 1), st(1, 2, 2, 2, 2))
	if m := made(t, "a U b", l); !same(m, until) {
		t.Errorf("a U b: %+v", m)
	}
	one, other := made(t, "a & b", l), made(t, "b & a", l)
	if same(one, other) || !slices.Equal(one.Props, ab()) || !slices.Equal(other.Props, []string{"b", "a"}) {
		t.Errorf("a & b: %+v, b & a: %+v", one, other)
	}
	if m := made(t, "G F a", l); !same(m, machine(ab()[:1], st(3, 0, 0))) {
		t.Errorf("G F a: %+v", m)
	}
	if m := made(t, "a | !a", l); !same(m, machine(ab()[:1], st(1, 0, 0))) {
		t.Errorf("a | !a: %+v", m)
	}
	wantRefused(t, "X", l, api.ErrSyntax, 1)
	wantRefused(t, "", l, api.ErrSyntax, 0)
	l.Nodes = 2
	wantRefused(t, "a U b", l, api.ErrLimitNodes, 0)
	l.Nodes = 4
	wantRefused(t, "a U b", l, api.ErrLimitNodes, 0)
	l.Nodes = 5
	if m := made(t, "a U b", l); !same(m, until) {
		t.Errorf("a U b with 5 nodes: %+v", m)
	}
	c, ok := synth.Count("a U b", l)
	if !ok || c != (synth.Counts{Text: 5, Nodes: 5, Depth: 2, Props: 2, Splits: 1, Tableau: 3, States: 4}) {
		t.Errorf("Count of a U b: %+v, %v", c, ok)
	}
}

// DOC.md, the examples 1 to 5.
func TestDocument(t *testing.T) {
	l := synth.Default()
	if m := made(t, "G (a -> X b)", l); !same(m, machine(ab(), st(3, 0, 1, 0, 1), st(3, 2, 2, 0, 1), st(2, 2, 2, 2, 2))) {
		t.Errorf("G (a -> X b): %+v", m)
	}
	in, turned := "b | (a & X (a U b))", []string{"b", "a"}
	if m := made(t, in, l); !same(m, machine(turned, st(3, 1, 2, 0, 2), st(2, 1, 1, 1, 1), st(1, 2, 2, 2, 2))) {
		t.Errorf("%s: %+v", in, m)
	}
	for _, names := range [][]string{ab(), turned, {"b", "x", "a"}} {
		if one, other := madeOf(t, read("a U b"), names, l), madeOf(t, read(in), names, l); !same(one, other) || !slices.Equal(one.Props, names) {
			t.Errorf("over %q: %+v, %+v", names, one, other)
		}
	}
	wantRefused(t, "a U", l, api.ErrSyntax, 3)
}

// A machine by hand of each kind of operator, with names that others lack: letters are numbers over the list that is handed in.
func TestOfOverOtherLists(t *testing.T) {
	l := synth.Default()
	x := []string{"x", "a"}
	for _, c := range []struct {
		text  string
		names []string
		want  api.Moore
	}{
		{"true", nil, machine(nil, st(1, 0))},
		{"false", nil, machine(nil, st(2, 0))},
		{"F true", nil, machine(nil, st(1, 0))},
		{"true", x, machine(x, st(1, 0, 0, 0, 0))},
		{"a", x, machine(x, st(3, 1, 1, 2, 2), st(2, 1, 1, 1, 1), st(1, 2, 2, 2, 2))},
		{"x", x, machine(x, st(3, 1, 2, 1, 2), st(2, 1, 1, 1, 1), st(1, 2, 2, 2, 2))},
		{"!a", x, machine(x, st(3, 1, 1, 2, 2), st(1, 1, 1, 1, 1), st(2, 2, 2, 2, 2))},
		{"G a", x, machine(x, st(3, 1, 1, 0, 0), st(2, 1, 1, 1, 1))},
		{"F a", x, machine(x, st(3, 0, 0, 1, 1), st(1, 1, 1, 1, 1))},
		{"X a", x, machine(x, st(3, 1, 1, 1, 1), st(3, 2, 2, 3, 3), st(2, 2, 2, 2, 2), st(1, 3, 3, 3, 3))},
		{"F G a", x, machine(x, st(3, 0, 0, 0, 0))},
		{"a R x", x, machine(x, st(3, 1, 0, 1, 2), st(2, 1, 1, 1, 1), st(1, 2, 2, 2, 2))},
		{"a W x", x, machine(x, st(3, 1, 2, 0, 2), st(2, 1, 1, 1, 1), st(1, 2, 2, 2, 2))},
		{"a M x", x, machine(x, st(3, 1, 0, 1, 2), st(2, 1, 1, 1, 1), st(1, 2, 2, 2, 2))},
		{"a -> x", x, machine(x, st(3, 1, 1, 2, 1), st(1, 1, 1, 1, 1), st(2, 2, 2, 2, 2))},
		{"a <-> x", x, machine(x, st(3, 1, 2, 2, 1), st(1, 1, 1, 1, 1), st(2, 2, 2, 2, 2))},
	} {
		if m := madeOf(t, read(c.text), c.names, l); !same(m, c.want) {
			t.Errorf("%s over %q: %+v, want %+v", c.text, c.names, m, c.want)
		}
	}
}

// Props are the names in the order in which they come first, as they are.
func TestNames(t *testing.T) {
	l := synth.Default()
	for text, want := range map[string][]string{
		"z & (a | z) & m":          {"z", "a", "m"},
		`"G" U "a b"`:              {"G", "a b"},
		"b W a":                    {"b", "a"}, // the normal form has a first
		"G (b -> a)":               {"b", "a"},
		"true":                     nil,
		`"true" | F "!"`:           {"true", "!"},
		"X (h & g & f & e)":        {"h", "g", "f", "e"},
		strings.Repeat("n", 32):    {strings.Repeat("n", 32)},
		"a & b & c & d & e & f":    names8()[:6],
		"(((((a)))) U (((b))))":    ab(),
		"\t a\n U\r b ":            ab(),
		"a <-> true":               {"a"},
		"(a & false) | (b | true)": ab(),
	} {
		if m := made(t, text, l); !slices.Equal(m.Props, want) || !slices.Equal(m.Props, tree.Names(read(text))) {
			t.Errorf("%s: %q", text, m.Props)
		}
	}
}
