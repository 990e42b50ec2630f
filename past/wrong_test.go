package past_test

import (
	"errors"
	"fmt"
	"slices"
	"strings"
	"testing"

	"augur/api"
	"augur/past"
	"augur/syntax"
	"augur/tree"
)

func TestNumbers(t *testing.T) {
	if api.OK != 0 || api.ErrArg != 1 || api.ErrMuch != 2 || api.ErrPastForm != 80 || api.ErrPastName != 81 || api.ErrPastLetter != 82 {
		t.Errorf("%d, %d, %d, %d, %d, %d", api.OK, api.ErrArg, api.ErrMuch, api.ErrPastForm, api.ErrPastName, api.ErrPastLetter)
	}
}

// noFormulas are trees that are none of the past.
func noFormulas() []api.Formula {
	p, q := prop("p"), prop("q")
	list := []api.Formula{
		{}, prop(""), prop(`a"b`), prop(`\`), prop("a\n"), prop("é"), prop("\x7f"), prop(strings.Repeat("a", 33)), op(api.OpNot), op(api.OpAnd, p), op(api.OpSince, p, q, p), op(api.OpSince, p), op(api.OpYest), op(api.OpOnce, p, q),
		{Op: api.OpTrue, Name: "p"}, op(api.OpTrue, p), {Op: api.OpProp, Name: "p", Kids: []api.Formula{p}}, {Op: api.OpYest, Name: "p", Kids: []api.Formula{p}},
		op(0, p), op(22), op(22, p, q), op(255, p), op(api.OpAnd, prop("r"), op(api.OpNot)),
		row(100, api.OpYest, p), row(20000, api.OpNot, p), spread(api.OpAnd, 501, p), op(api.OpOnce, op(api.OpOnce, spread(api.OpSince, 500, p))), spread(api.OpTrig, 20000, op(api.OpTrue)),
	}
	for _, o := range ofFuture {
		list = append(list, op(o, p), op(o, p, q), op(api.OpHist, op(o, p)), op(api.OpAnd, p, op(o, q, p)), op(api.OpOr, op(api.OpTrue), op(o, prop("r"))))
	}
	return list
}

// noLists are lists that are none of names.
func noLists() [][]string {
	return [][]string{
		{"p", "p"}, {"p", "q", "p"}, {"p", "q", ""}, {""}, {"p", "q", `"`}, {"p", `q\`, "q"}, {"p", "q", "\x1f"}, {"p", "q", "\x7f"}, {"p", "q", "é"}, {"p", "q", strings.Repeat("a", 33)}, {"p", "q", "r\n"},
		{"p", "q", "3", "4", "5", "6", "7", "8", "9"}, {"p", "q", "3", "4", "5", "6", "7", "p"}, slices.Repeat([]string{"p"}, 1000000),
	}
}

// wantNone wants an error of Holds by each row, and nothing beside it; and of New.
func wantNone(t *testing.T, f api.Formula, names []string, u []uint16, want api.Errno) {
	t.Helper()
	if is, err := past.Holds(f, names, u...); is || err != want {
		t.Errorf("Holds of a tree of %d parts over %.99q by %v: %v, %v, want %v", tree.Size(f), names, u, is, err, want)
	}
	wantOfNew := want
	if want == api.ErrArg || want == api.ErrPastLetter {
		wantOfNew = api.OK
	}
	if w, err := past.New(f, names); err != wantOfNew || (w == nil) != (err != api.OK) {
		t.Errorf("New of a tree of %d parts over %.99q: %v, want %v", tree.Size(f), names, err, wantOfNew)
	}
}

// R1: the first error in the chapter's order, whatever else is wrong.
func TestErrorsInTheirOrder(t *testing.T) {
	right, lacks := read("p S q"), []api.Formula{prop("r"), read("p S (q & Y r)"), prop("P"), prop("p "), prop("pq"), read("H (p -> O a)")}
	us := [][]uint16{nil, {}, {4}, {1, 4}, {65535, 0}, {1, 2}}
	for _, u := range us {
		for _, f := range noFormulas() {
			if tree.RightPast(f) == api.OK {
				t.Fatalf("%.200s is one", show(f))
			}
			wantNone(t, f, pq(), u, api.ErrPastForm)
			wantNone(t, f, nil, u, api.ErrPastForm)
			wantNone(t, f, []string{"p", "p"}, u, api.ErrPastForm)
		}
		for _, names := range noLists() {
			wantNone(t, right, names, u, api.ErrPastForm)
			wantNone(t, op(api.OpTrue), names, u, api.ErrPastForm)
			wantNone(t, lacks[0], names, u, api.ErrPastForm)
		}
		for _, f := range lacks {
			wantNone(t, f, pq(), u, api.ErrPastName)
		}
		wantNone(t, right, nil, u, api.ErrPastName)
		wantNone(t, right, []string{"p"}, u, api.ErrPastName)
		wantNone(t, right, []string{"q"}, u, api.ErrPastName)
	}
	for _, f := range []api.Formula{right, op(api.OpTrue), read("H p")} {
		wantNone(t, f, pq(), nil, api.ErrArg)
		wantNone(t, f, pq(), []uint16{}, api.ErrArg)
		for _, u := range us[2:5] {
			wantNone(t, f, pq(), u, api.ErrPastLetter)
		}
	}
}

// Just 1000 nodes and a depth of just 100 are in.
func TestGreatestFormulas(t *testing.T) {
	for _, f := range []api.Formula{row(99, api.OpYest, prop("p")), op(api.OpOnce, spread(api.OpSince, 500, prop("p")))} {
		watch(t, f, pq())
	}
	watch(t, prop(strings.Repeat("~", 32)), []string{strings.Repeat("~", 32)})
}

// wantNoBook wants a failure of NewBook with that number and place, and no book.
func wantNoBook(t *testing.T, names []string, defines []api.Define, number api.Errno, at int) {
	t.Helper()
	b, err := past.NewBook(names, defines...)
	var failure *api.Failure
	if b != nil || !errors.As(err, &failure) || *failure != (api.Failure{Call: "NewBook", Err: number, At: at}) {
		t.Errorf("NewBook(%.99q, %.300v): %v, %+v; want %v at %d", names, defines, b != nil, failure, number, at)
		return
	}
	if !errors.Is(err, number) || errors.Is(err, api.OK) {
		t.Errorf("errors.Is of %v", err)
	}
}

func TestNoBookExamples(t *testing.T) {
	given := []string{"open", "close"}
	wantNoBook(t, given, []api.Define{define("twice", "open & Y seen"), define("seen", "O open")}, api.ErrPastName, 0)
	wantNoBook(t, given, []api.Define{define("open", "true")}, api.ErrPastName, 0)
	wantNoBook(t, given, []api.Define{define("a", "X open")}, api.ErrSyntax, 0)
}

// R1: the names ahead of how many defines there are, and both ahead of the defines.
func TestNoBookInOrder(t *testing.T) {
	wrong := make([]api.Define, api.MaxDefines+1)
	for _, names := range noLists() {
		for _, defines := range [][]api.Define{nil, {}, wrong, wrong[:1], {define("a", "p")}} {
			wantNoBook(t, names, defines, api.ErrArg, 0)
		}
	}
	many := []api.Define{}
	for i := range 1000 {
		many = append(many, define(fmt.Sprintf("n%d", i), "true"))
	}
	for _, defines := range [][]api.Define{wrong, many[:65], many} {
		wantNoBook(t, pq(), defines, api.ErrMuch, 0)
		wantNoBook(t, nil, defines, api.ErrMuch, 0)
	}
	book(t, pq(), many[:64]...)
	wantNoBook(t, pq(), wrong[:64], api.ErrPastName, 0)
}

// The first define that is wrong is told, by its number; of its own faults the name, then the text, then the text's names.
func TestWrongDefines(t *testing.T) {
	good := []api.Define{define("a", "O p"), define("b", "Y a"), define("c", "a S b")}
	for _, c := range []struct {
		define api.Define
		number api.Errno
	}{
		{define("", "true"), api.ErrPastName}, {define(`x"`, "true"), api.ErrPastName}, {define(`\`, "true"), api.ErrPastName}, {define("é", "true"), api.ErrPastName}, {define("x\n", "true"), api.ErrPastName}, {define(strings.Repeat("x", 33), "true"), api.ErrPastName},
		{define("p", "true"), api.ErrPastName}, {define("q", "Y q"), api.ErrPastName}, {define("", "X $"), api.ErrPastName}, {define("p", ""), api.ErrPastName}, {define("", "z"), api.ErrPastName},
		{define("x", ""), api.ErrSyntax}, {define("x", "p q"), api.ErrSyntax}, {define("x", "X p"), api.ErrSyntax}, {define("x", "p U q"), api.ErrSyntax}, {define("x", "(z"), api.ErrSyntax}, {define("x", "x &"), api.ErrSyntax},
		{define("x", "p & $"), api.ErrLexSign}, {define("x", `z & "p`), api.ErrLexQuote}, {define("x", strings.Repeat("z", 33)), api.ErrLexName}, {define("x", `""`), api.ErrLexName},
		{define("x", strings.Repeat("Y ", 100)+"z"), api.ErrLimitDepth}, {define("x", "p"+strings.Repeat(" ", 65536)), api.ErrLimitText},
		{define("x", "z1 & z2 & z3 & z4 & z5 & z6 & z7 & z8 & z9"), api.ErrLimitProps}, {define("x", "Y z1 & (z2 | z3)"), api.ErrPastName},
		{define("x", "x"), api.ErrPastName}, {define("x", "Y x"), api.ErrPastName}, {define("x", "p | P"), api.ErrPastName}, {define("x", `"p "`), api.ErrPastName}, {define("x", "true | z"), api.ErrPastName}, {define("x", "later"), api.ErrPastName},
	} {
		for at := range len(good) + 1 {
			defines := slices.Insert(slices.Clone(good), at, c.define)
			defines = append(defines, define("later", "true"), define("", ""))
			wantNoBook(t, pq(), defines, c.number, at)
			wantNoBook(t, pq(), defines[:at+1], c.number, at)
		}
	}
	// A name that was defined ahead is a name of the book already.
	for _, d := range good {
		wantNoBook(t, pq(), append(slices.Clone(good), define(d.Name, "$")), api.ErrPastName, 3)
	}
	// What one refers to must stand ahead of it.
	wantNoBook(t, pq(), good[1:], api.ErrPastName, 0)
	wantNoBook(t, pq(), []api.Define{good[0], good[2], good[1]}, api.ErrPastName, 1)
	book(t, pq(), good...)
}

// The greatest limits: what is just within them is taken, one more is not.
func TestDefinesWithinLimits(t *testing.T) {
	given := []string{"a", "b", "c", "d", "e", "f", "g", "h"}
	all := strings.Join(given, " & ")
	text := func(f api.Formula) string {
		s, err := syntax.Print(f)
		if err != api.OK {
			t.Fatal(err)
		}
		return s
	}
	most := op(api.OpOnce, spread(api.OpSince, 500, prop("a"))) // 1000 nodes
	for _, c := range []struct {
		within, beyond string
		number         api.Errno
	}{
		{"a" + strings.Repeat(" ", 65535), "a" + strings.Repeat(" ", 65536), api.ErrLimitText},
		{text(most), "Y (" + text(most) + ")", api.ErrLimitNodes},
		{strings.Repeat("Z ", 99) + "a", strings.Repeat("Z ", 100) + "a", api.ErrLimitDepth},
		{all, all + " & i", api.ErrLimitProps},
	} {
		book(t, given, define("i", "true"), define("x", c.within))
		wantNoBook(t, given, []api.Define{define("i", "true"), define("x", c.beyond)}, c.number, 1)
	}
	long := strings.Repeat("x", 32)
	book(t, []string{long}, define(strings.Repeat("y", 32), long))
}

// What NewBook says of a text is what ParsePast says of it.
func TestErrorsOfTexts(t *testing.T) {
	bits := []string{"p", " ", "Y", "S", "&", "->", "(", ")", "!", "$", `"`, "X", "true", "-"}
	d := draw(77)
	for range 3000 {
		text := ""
		for range 1 + d.below(6) {
			text += bits[d.below(len(bits))] + " "
		}
		f, err := syntax.ParsePast(text, greatest())
		var failure *api.Failure
		switch {
		case errors.As(err, &failure):
			wantNoBook(t, []string{"p"}, []api.Define{define("x", text)}, failure.Err, 0)
		case slices.Equal(tree.Names(f), []string{"p"}) || len(tree.Names(f)) == 0:
			book(t, []string{"p"}, define("x", text))
		default:
			wantNoBook(t, []string{"p"}, []api.Define{define("x", text)}, api.ErrPastName, 0)
		}
	}
}
