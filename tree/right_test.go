package tree_test

import (
	"slices"
	"strings"
	"testing"

	"augur/api"
	"augur/tree"
)

func wantRight(t *testing.T, what string, f api.Formula, future, past api.Errno) {
	t.Helper()
	if got := tree.Right(f); got != future {
		t.Errorf("Right of %s: %v, want %v", what, got, future)
	}
	if got := tree.RightPast(f); got != past {
		t.Errorf("RightPast of %s: %v, want %v", what, got, past)
	}
}

func wantForm(t *testing.T, what string, f api.Formula) {
	t.Helper()
	wantRight(t, what, f, api.ErrTreeForm, api.ErrTreeForm)
}

// The chapter's section 'Errors', the bounds, and the Ops as numbers, by which they are ordered.
func TestNumbers(t *testing.T) {
	if api.ErrTreeForm != 30 || api.ErrTreeBig != 31 || api.ErrTreePath != 32 || api.ErrArg != 1 || api.OK != 0 {
		t.Errorf("errors %d, %d, %d, %d", api.ErrTreeForm, api.ErrTreeBig, api.ErrTreePath, api.ErrArg)
	}
	if api.MaxNodes != 1000 || api.MaxDepth != 100 || api.MaxName != 32 {
		t.Errorf("bounds %d, %d, %d", api.MaxNodes, api.MaxDepth, api.MaxName)
	}
	for i, o := range []api.Op{
		api.OpTrue, api.OpFalse, api.OpProp, api.OpNot, api.OpAnd, api.OpOr, api.OpImp, api.OpIff, api.OpNext, api.OpEvent, api.OpAlways,
		api.OpUntil, api.OpRelease, api.OpWeak, api.OpStrong, api.OpYest, api.OpWeakYest, api.OpOnce, api.OpHist, api.OpSince, api.OpTrig,
	} {
		if int(o) != i+1 {
			t.Errorf("the Op %d is %d", i+1, o)
		}
	}
}

func TestRightExamples(t *testing.T) {
	wantRight(t, "f", example(), api.OK, api.ErrTreeForm)
	wantRight(t, "Y p", op(api.OpYest, p), api.ErrTreeForm, api.OK)
	wantRight(t, "X p", next(p), api.OK, api.ErrTreeForm)
	wantForm(t, "an OpAnd of one kid", op(api.OpAnd, p))
	wantForm(t, "an OpTrue with a Name", api.Formula{Op: api.OpTrue, Name: "p"})
	wantForm(t, `a"b`, prop(`a"b`))
	wantRight(t, "100 X", row(100, api.OpNext, p), api.ErrTreeBig, api.ErrTreeForm)
}

// Each number that an Op can be, with each number of kids.
func TestEachOp(t *testing.T) {
	for n := range 256 {
		o := api.Op(n)
		want := -1
		switch {
		case slices.Contains(ofNone, o):
			want = 0
		case slices.Contains(ofOne, o):
			want = 1
		case slices.Contains(ofTwo, o):
			want = 2
		}
		future, past := api.OK, api.OK
		if slices.Contains(ofPast, o) {
			future = api.ErrTreeForm
		}
		if slices.Contains(ofFuture, o) {
			past = api.ErrTreeForm
		}
		for kids := range 4 {
			f := op(o, slices.Repeat([]api.Formula{p}, kids)...)
			if o == api.OpProp {
				f.Name = "p"
			}
			if kids != want {
				future, past := api.ErrTreeForm, api.ErrTreeForm
				wantRight(t, text(f), f, future, past)
				wantRight(t, "! of "+text(f), not(f), future, past)
				continue
			}
			wantRight(t, text(f), f, future, past)
			wantRight(t, "p & of "+text(f), and(p, f), future, past)
			if o == api.OpProp {
				f.Name = ""
			} else {
				f.Name = "p"
			}
			wantForm(t, text(f), f)
		}
	}
}

func TestNamesThatAreNone(t *testing.T) {
	for b := range 256 {
		want := api.OK
		if b < 0x20 || b > 0x7e || b == '"' || b == '\\' {
			want = api.ErrTreeForm
		}
		c := string([]byte{byte(b)})
		for _, name := range []string{c, "a" + c, c + "a", strings.Repeat("a", 31) + c} {
			wantRight(t, name, prop(name), want, want)
			wantRight(t, "! of "+name, not(prop(name)), want, want)
		}
	}
	wantForm(t, "no name", prop(""))
	wantForm(t, "33 bytes", prop(strings.Repeat("a", 33)))
	wantForm(t, "ü", prop("ü"))
	wantRight(t, "X", prop("X"), api.OK, api.OK)
	wantRight(t, "32 bytes", prop(strings.Repeat("a", 32)), api.OK, api.OK)
	wantRight(t, "32 blanks", prop(strings.Repeat(" ", 32)), api.OK, api.OK)
}

// A wrong tree is found at each place.
func TestWrongInside(t *testing.T) {
	for _, wrong := range []api.Formula{{}, prop(""), {Op: api.OpFalse, Name: "p"}, op(api.OpNot), op(api.OpTrue, p)} {
		for _, f := range []api.Formula{
			wrong, not(wrong), and(wrong, p), and(p, wrong), and(and(p, and(wrong, q)), p), and(p, and(and(p, wrong), p)), row(99, api.OpNot, wrong),
		} {
			wantForm(t, text(f), f)
		}
	}
	both := and(next(p), op(api.OpYest, p))
	wantForm(t, "X p & Y p", both)
	wantForm(t, "G (X p & Y p)", op(api.OpAlways, both))
}

func TestDepthBound(t *testing.T) {
	for n, want := range map[int]api.Errno{1: api.OK, 98: api.OK, 99: api.OK, 100: api.ErrTreeBig, 101: api.ErrTreeBig, 998: api.ErrTreeBig, 65000: api.ErrTreeBig} {
		wantRight(t, "a row of !", row(n, api.OpNot, p), want, want)
		wantRight(t, "a row of X", row(n, api.OpNext, p), want, api.ErrTreeForm)
		wantRight(t, "a row of Y", row(n, api.OpYest, p), api.ErrTreeForm, want)
		wantRight(t, "a row of ! on the left", and(row(n-1, api.OpNot, p), p), want, want)
		wantRight(t, "a row of ! on the right", and(p, row(n-1, api.OpNot, p)), want, want)
	}
}

func TestSizeBound(t *testing.T) {
	for leaves, want := range map[int]api.Errno{499: api.OK, 500: api.OK, 501: api.ErrTreeBig, 1000: api.ErrTreeBig, 100000: api.ErrTreeBig} {
		f := spread(leaves, p) // of 2 leaves - 1
		wantRight(t, "leaves", f, want, want)
	}
	wantRight(t, "1000 nodes", not(spread(500, p)), api.OK, api.OK)
	wantRight(t, "1001 nodes", not(not(spread(500, p))), api.ErrTreeBig, api.ErrTreeBig)
	wantRight(t, "1000 nodes, next", next(spread(500, p)), api.OK, api.ErrTreeForm)
}

// R1: the form goes ahead of the size, even if the wrong tree stands last.
func TestFormAheadOfSize(t *testing.T) {
	great := spread(2000, p)
	wantForm(t, "great, wrong at its end", and(great, prop("")))
	wantForm(t, "great, wrong at its front", and(prop(""), great))
	wantForm(t, "deep, wrong at its end", row(2000, api.OpNot, op(0)))
	wantRight(t, "great, Y at its end", and(great, op(api.OpYest, p)), api.ErrTreeForm, api.ErrTreeBig)
	wantRight(t, "great, X at its end", and(great, next(p)), api.ErrTreeBig, api.ErrTreeForm)
}

// What Right takes, it takes of each tree that stands in it; and both agree with the chapter's words.
func TestRightOfParts(t *testing.T) {
	taken := 0
	for _, f := range someTrees() {
		wantRight(t, text(f), f, byWords(f, ofPast), byWords(f, ofFuture))
		for _, x := range []func(api.Formula) api.Errno{tree.Right, tree.RightPast} {
			if x(f) != api.OK {
				continue
			}
			taken++
			for _, part := range tree.All(f) {
				if x(part) != api.OK {
					t.Errorf("%s is taken, %s in it is not", text(f), text(part))
				}
			}
		}
	}
	if taken < 500 {
		t.Errorf("%d taken alone", taken)
	}
}

// byWords says again what a small formula is, without the Ops of the other time.
func byWords(f api.Formula, other []api.Op) api.Errno {
	for _, part := range pieces(f) {
		var kids []int
		for n, list := range [][]api.Op{ofNone, ofOne, ofTwo} {
			if slices.Contains(list, part.Op) && !slices.Contains(other, part.Op) {
				kids = append(kids, n)
			}
		}
		named := part.Name == ""
		if part.Op == api.OpProp {
			named = len(part.Name) > 0 && strings.Trim(part.Name, "pqr ") == ""
		}
		if len(kids) != 1 || kids[0] != len(part.Kids) || !named {
			return api.ErrTreeForm
		}
	}
	return api.OK
}
