package past_test

import (
	"slices"
	"testing"

	"augur/api"
	"augur/past"
	"augur/tree"
)

// spoil changes all of a tree.
func spoil(f api.Formula) {
	for i := range f.Kids {
		spoil(f.Kids[i])
		f.Kids[i] = op(api.OpFalse)
	}
}

// R2: a watch keeps nothing of what it was handed; what it was handed stays as it is, with the room behind it.
func TestLentToWatches(t *testing.T) {
	d := draw(14)
	for _, f := range append(someFormulas(200, 5), small()[:200]...) {
		u := d.letters(9, 2)
		want := byLetters(f, pq(), u)
		names := []string{"p", "q", "room"}
		lent := append(slices.Clone(u), 77)
		asked := tree.Copy(f)
		w := watch(t, asked, names[:2])
		wantHolds(t, asked, names[:2], lent[:9], want)
		wantSteps(t, w, f, u[:4], want)
		w.Reset()
		if !slices.Equal(names, []string{"p", "q", "room"}) || !slices.Equal(lent, append(slices.Clone(u), 77)) || show(asked) != show(f) {
			t.Fatalf("%q, %v, %s", names, lent, show(asked))
		}
		names[0], names[1] = "q", "p"
		spoil(asked)
		wantSteps(t, w, f, u, want)
		w.Reset()
		wantSteps(t, w, f, u, want)
	}
}

// R2: a book, too.
func TestLentToBooks(t *testing.T) {
	names := []string{"p", "q", "room"}
	defines := []api.Define{define("a", "p S q"), define("b", "Y a | q"), define("room", "$")}
	b := book(t, names[:2], defines[:2]...)
	if !slices.Equal(names, []string{"p", "q", "room"}) || !slices.Equal(defines, []api.Define{define("a", "p S q"), define("b", "Y a | q"), define("room", "$")}) {
		t.Fatalf("%q, %v", names, defines)
	}
	names[0], names[1] = "x", "y"
	defines[0], defines[1] = define("x", "true"), define("y", "false")
	step := []string{"q", "z", "p", "room"}
	if got := b.Step(step[:2]...); !slices.Equal(got, []string{"q", "a", "b"}) {
		t.Errorf("%q", got)
	}
	if !slices.Equal(step, []string{"q", "z", "p", "room"}) {
		t.Errorf("%q", step)
	}
	step[0] = "p"
	wantBook(t, b, "p", "p a b")
	wantBook(t, b, "", "b")
	if got := b.Names(); !slices.Equal(got, []string{"p", "q", "a", "b"}) {
		t.Errorf("%q", got)
	}
}

// R2: lists that come out are the asker's own, with the room behind them.
func TestOwnLists(t *testing.T) {
	b := book(t, []string{"p", "q"}, define("a", "O p"), define("b", "Y a"))
	all := []string{"p", "q", "a", "b"}
	seen := map[*string]string{}
	own := func(who string, list []string) {
		t.Helper()
		whole := list[:cap(list)]
		for i := range whole {
			if other, twice := seen[&whole[i]]; twice {
				t.Fatalf("%s shares memory with %s", who, other)
			}
			seen[&whole[i]] = who
			whole[i] = "spoilt"
		}
		_ = append(list, "spoilt")
	}
	step := []string{"p", "q"}
	own("what was handed in", slices.Clone(step))
	b.Step(step...)
	for range 10 {
		names, told := b.Names(), b.Step(step...)
		if !slices.Equal(names, all) || !slices.Equal(told, all) {
			t.Fatalf("%q, %q", names, told)
		}
		own("Names", names)
		own("Step", told)
		if !slices.Equal(step, []string{"p", "q"}) {
			t.Fatalf("%q", step)
		}
	}
}

// R2: failures are new ones, too.
func TestOwnFailures(t *testing.T) {
	_, one := past.NewBook(nil, define("", ""))
	one.(*api.Failure).Err = 99
	_, other := past.NewBook(nil, define("", ""))
	if other == one || other.(*api.Failure).Err != api.ErrPastName {
		t.Error(other)
	}
}

// R6: a list that is nil and one that is empty are the same.
func TestNilAndEmpty(t *testing.T) {
	empty := api.Formula{Op: api.OpYest, Kids: []api.Formula{{Op: api.OpTrue, Kids: []api.Formula{}}}}
	for _, names := range [][]string{nil, {}} {
		for _, f := range []api.Formula{empty, read("Y true")} {
			wantHolds(t, f, names, []uint16{0, 0}, []bool{false, true})
			wantNone(t, f, names, []uint16{}, api.ErrArg)
			wantNone(t, f, names, []uint16{1}, api.ErrPastLetter)
			wantNone(t, prop("p"), names, nil, api.ErrPastName)
			if got := watch(t, f, names).Bits(); got != 1 {
				t.Errorf("Bits: %d", got)
			}
		}
		for _, defines := range [][]api.Define{nil, {}} {
			b := book(t, names, defines...)
			if len(b.Names()) != 0 || len(b.Step()) != 0 || len(b.Step([]string{}...)) != 0 {
				t.Error("an empty book has names")
			}
		}
		b := book(t, []string{"p"}, define("a", "Z p"))
		for range 2 {
			if got := b.Step(names...); !slices.Equal(got, []string{"a"}) {
				t.Errorf("%q", got)
			}
			b.Reset()
		}
	}
}
