package tree_test

import (
	"slices"
	"strings"
	"testing"

	"augur/api"
	"augur/tree"
)

func wantPut(t *testing.T, f api.Formula, name string, by, want api.Formula) {
	t.Helper()
	if got, err := tree.Put(f, name, by); err != api.OK || !same(got, want) {
		t.Errorf("Put(%.200s, %q, %.200s): %.200s, %v", text(f), name, text(by), text(got), err)
	}
}

func wantNoPut(t *testing.T, f api.Formula, name string, by api.Formula, want api.Errno) {
	t.Helper()
	if got, err := tree.Put(f, name, by); err != want || !same(got, api.Formula{}) {
		t.Errorf("Put(%.200s, %q, %.200s): %.200s, %v, want %v", text(f), name, text(by), text(got), err, want)
	}
}

func TestPut(t *testing.T) {
	f := example()
	wantPut(t, f, "p", not(q), op(api.OpUntil, not(q), and(q, next(not(q)))))
	wantPut(t, f, "q", op(api.OpTrue), op(api.OpUntil, p, and(op(api.OpTrue), next(p))))
	wantPut(t, p, "p", f, f)
	wantPut(t, p, "q", f, p)
	wantPut(t, op(api.OpTrue), "p", f, op(api.OpTrue))
	// What is put in is not looked at again.
	wantPut(t, f, "p", next(p), op(api.OpUntil, next(p), and(q, next(next(p)))))
	wantPut(t, and(p, q), "p", and(q, p), and(and(q, p), q))
	// The name alone counts: no beginning of it, no other case.
	wantPut(t, and(prop("pp"), prop("P")), "p", q, and(prop("pp"), prop("P")))
	wantPut(t, prop("a b"), "a b", q, q)
	// Well formed is enough: Ops of both times.
	wantPut(t, op(api.OpYest, p), "p", next(p), op(api.OpYest, next(p)))
	wantPut(t, op(api.OpUntil, p, q), "q", op(api.OpSince, p, q), op(api.OpUntil, p, op(api.OpSince, p, q)))
}

func TestPutOfWrongForm(t *testing.T) {
	for _, wrong := range []api.Formula{{}, prop(""), prop(`a"b`), op(api.OpAnd, p), op(200), {Op: api.OpTrue, Name: "p"}, {Op: api.OpProp, Name: "p", Kids: []api.Formula{p}}, next(op(api.OpNot))} {
		wantNoPut(t, wrong, "p", q, api.ErrTreeForm)
		wantNoPut(t, and(p, wrong), "p", q, api.ErrTreeForm)
		wantNoPut(t, p, "p", wrong, api.ErrTreeForm)
		wantNoPut(t, p, "p", and(wrong, q), api.ErrTreeForm)
		wantNoPut(t, p, "q", wrong, api.ErrTreeForm) // though it would stand nowhere
		wantNoPut(t, wrong, "p", wrong, api.ErrTreeForm)
		// R1: ahead of what is too great.
		wantNoPut(t, spread(2000, p), "p", wrong, api.ErrTreeForm)
		wantNoPut(t, and(spread(2000, p), wrong), "p", q, api.ErrTreeForm)
		wantNoPut(t, wrong, "p", row(200, api.OpNot, p), api.ErrTreeForm)
	}
	for _, name := range []string{"", `"`, `\`, "a\n", "é", "\x7f", "\x1f", strings.Repeat("a", 33)} {
		wantNoPut(t, example(), name, q, api.ErrTreeForm)
		wantNoPut(t, op(api.OpTrue), name, q, api.ErrTreeForm)
		wantNoPut(t, spread(2000, p), name, q, api.ErrTreeForm)
	}
	most := strings.Repeat("a", 32)
	wantPut(t, prop(most), most, q, q)
}

func TestPutWithinTheBounds(t *testing.T) {
	// 500 leaves and 499 over them.
	f := spread(500, p)
	wantPut(t, f, "p", q, spread(500, q))
	wantPut(t, not(f), "p", q, not(spread(500, q)))
	wantPut(t, and(spread(499, q), p), "p", not(q), and(spread(499, q), not(q)))
	wantNoPut(t, and(spread(499, q), p), "p", not(not(q)), api.ErrTreeBig)
	wantNoPut(t, f, "p", not(q), api.ErrTreeBig)
	// Just 1000, made of many.
	wantPut(t, not(spread(250, p)), "p", and(p, q), not(spread(250, and(p, q))))
	wantNoPut(t, not(not(spread(250, p))), "p", and(p, q), api.ErrTreeBig)
	// Depth: 99 over p, of depth 1.
	wantPut(t, row(99, api.OpNot, p), "p", q, row(99, api.OpNot, q))
	wantNoPut(t, row(99, api.OpNot, p), "p", not(q), api.ErrTreeBig)
	wantPut(t, row(40, api.OpNot, p), "p", row(59, api.OpNot, q), row(99, api.OpNot, q))
	wantNoPut(t, row(40, api.OpNot, p), "p", row(60, api.OpNot, q), api.ErrTreeBig)
	wantPut(t, p, "p", row(99, api.OpNot, q), row(99, api.OpNot, q))
	wantNoPut(t, p, "p", row(100, api.OpNot, q), api.ErrTreeBig)
	wantPut(t, p, "p", not(spread(500, q)), not(spread(500, q)))
	wantNoPut(t, p, "p", spread(501, q), api.ErrTreeBig)
	// The deep place counts where the name stands, not where it does not.
	wantPut(t, and(row(98, api.OpNot, q), p), "p", row(98, api.OpNot, q), and(row(98, api.OpNot, q), row(98, api.OpNot, q)))
	wantNoPut(t, and(row(98, api.OpNot, q), p), "p", row(99, api.OpNot, q), api.ErrTreeBig)
}

// It is what comes of it that is bounded: what is put nowhere may be as great as it likes.
func TestPutOfGreatTrees(t *testing.T) {
	wantPut(t, example(), "r", spread(5000, q), example())
	wantPut(t, example(), "r", row(5000, api.OpNot, q), example())
	wantNoPut(t, spread(501, p), "r", q, api.ErrTreeBig)
	wantNoPut(t, row(100, api.OpNot, p), "r", q, api.ErrTreeBig)
	wantNoPut(t, row(100, api.OpNot, p), "p", q, api.ErrTreeBig)
	// Made, it would be of 10^10 nodes.
	wantNoPut(t, spread(100000, p), "p", spread(100000, p), api.ErrTreeBig)
	wantNoPut(t, spread(500, p), "p", spread(500, p), api.ErrTreeBig)
}

// What holds: Put of a name by itself, and of a name that f lacks, is f.
func TestPutOfItself(t *testing.T) {
	d := draw(7)
	for range 500 {
		f := d.formula(6, anyOp)
		for _, name := range []string{"p", "q", "r", "lacking"} {
			wantPut(t, f, name, prop(name), f)
		}
		wantPut(t, f, "lacking", example(), f)
		// By another that it lacks, and back.
		there, err := tree.Put(f, "p", prop("lacking"))
		if err != api.OK || slices.Contains(tree.Names(there), "p") {
			t.Errorf("%s: %v", text(there), err)
		}
		wantPut(t, there, "lacking", p, f)
	}
}

func wantRename(t *testing.T, f api.Formula, from, to string, want api.Formula) {
	t.Helper()
	if got, err := tree.Rename(f, strings.Fields(from), strings.Fields(to)); err != api.OK || !same(got, want) {
		t.Errorf("Rename(%.200s; %s; %s): %.200s, %v", text(f), from, to, text(got), err)
	}
}

func wantNoRename(t *testing.T, f api.Formula, from, to []string, want api.Errno) {
	t.Helper()
	if got, err := tree.Rename(f, from, to); err != want || !same(got, api.Formula{}) {
		t.Errorf("Rename(%.200s; %q; %q): %.200s, %v, want %v", text(f), from, to, text(got), err, want)
	}
}

func TestRename(t *testing.T) {
	f := example()
	wantRename(t, f, "p q", "q p", op(api.OpUntil, q, and(p, next(q))))
	wantRename(t, f, "q p", "p q", op(api.OpUntil, q, and(p, next(q))))
	wantRename(t, f, "", "", f)
	wantRename(t, f, "p", "p", f)
	wantRename(t, f, "r", "p", f)
	wantRename(t, f, "p", "q", op(api.OpUntil, q, and(q, next(q))))
	// to may have one twice.
	wantRename(t, f, "p q", "r r", op(api.OpUntil, prop("r"), and(prop("r"), next(prop("r")))))
	// All at one time, not one behind the other.
	wantRename(t, and(p, and(q, prop("r"))), "p q r", "q r p", and(q, and(prop("r"), p)))
	wantRename(t, op(api.OpSince, p, next(q)), "q", "s", op(api.OpSince, p, next(prop("s"))))
	wantRename(t, op(api.OpTrue), "p", "q", op(api.OpTrue))
}

// No bound of size, of depth, or of how many names there are.
func TestRenameOfGreatTrees(t *testing.T) {
	wantRename(t, spread(3000, p), "p", "q", spread(3000, q))
	wantRename(t, row(3000, api.OpNot, p), "p", "q", row(3000, api.OpNot, q))
	from, to := []string{}, []string{}
	f, g := op(api.OpTrue), op(api.OpTrue)
	for i := range 200 {
		from = append(from, strings.Repeat("a", i%20+1)+strings.Repeat("b", i/20))
		to = append(to, strings.Repeat("c", i%20+1)+strings.Repeat("a", i/20))
		f, g = and(f, prop(from[i])), and(g, prop(to[i]))
	}
	wantRename(t, f, strings.Join(from, " "), strings.Join(to, " "), g)
}

func TestRenameOfWrongArguments(t *testing.T) {
	f := example()
	most := strings.Repeat("a", 32)
	wantNoRename(t, f, []string{"p"}, []string{"p", "q"}, api.ErrArg)
	wantNoRename(t, f, []string{"p", "q"}, []string{"p"}, api.ErrArg)
	wantNoRename(t, f, nil, []string{"p"}, api.ErrArg)
	wantNoRename(t, f, []string{"p"}, nil, api.ErrArg)
	wantNoRename(t, f, []string{"p", "p"}, []string{"p", "q"}, api.ErrArg)
	wantNoRename(t, f, []string{"p", "p"}, []string{"q", "q"}, api.ErrArg)
	wantNoRename(t, f, []string{"r", "s", "r"}, []string{"a", "b", "c"}, api.ErrArg)
	for _, bad := range []string{"", `"`, `\`, "a\n", "é", most + "a"} {
		wantNoRename(t, f, []string{bad}, []string{"p"}, api.ErrArg)
		wantNoRename(t, f, []string{"p"}, []string{bad}, api.ErrArg)
		wantNoRename(t, f, []string{"r", bad}, []string{"s", "t"}, api.ErrArg)
		wantNoRename(t, f, []string{"r", "s"}, []string{"t", bad}, api.ErrArg)
	}
	wantRename(t, prop(most), most, most, prop(most))
	for _, wrong := range []api.Formula{{}, prop(""), op(api.OpAnd, p), next(op(200)), and(p, api.Formula{Op: api.OpTrue, Name: "p"})} {
		wantNoRename(t, wrong, []string{"p"}, []string{"q"}, api.ErrTreeForm)
		wantNoRename(t, wrong, nil, nil, api.ErrTreeForm)
		wantNoRename(t, wrong, []string{"p"}, nil, api.ErrTreeForm) // R1: ahead of the lists
		wantNoRename(t, wrong, []string{"p", "p"}, []string{"", ""}, api.ErrTreeForm)
	}
}

// What holds: there and back again, by unlike names that f lacks, is f.
func TestRenameThereAndBack(t *testing.T) {
	d := draw(3)
	for range 500 {
		f := d.formula(6, anyOp)
		there, err := tree.Rename(f, []string{"p", "q", "r"}, []string{"a", "b", "c"})
		if err != api.OK || strings.Trim(strings.Join(tree.Names(there), ""), "abc") != "" {
			t.Errorf("%s: %v", text(there), err)
		}
		wantRename(t, there, "a b c", "p q r", f)
		wantRename(t, there, "c b a", "r q p", f)
	}
}
