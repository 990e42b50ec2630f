package tree_test

import (
	"cmp"
	"slices"
	"strings"
	"testing"

	"augur/api"
	"augur/tree"
)

func wantTells(t *testing.T, f api.Formula, size, depth int, names ...string) {
	t.Helper()
	if got := tree.Size(f); got != size {
		t.Errorf("Size of %.200s: %d, want %d", text(f), got, size)
	}
	if got := tree.Depth(f); got != depth {
		t.Errorf("Depth of %.200s: %d, want %d", text(f), got, depth)
	}
	if got := tree.Names(f); !slices.Equal(got, names) {
		t.Errorf("Names of %.200s: %q, want %q", text(f), got, names)
	}
}

func TestSizeDepthNames(t *testing.T) {
	wantTells(t, example(), 6, 4, "p", "q")
	wantTells(t, api.Formula{}, 1, 1)
	wantTells(t, op(api.OpTrue), 1, 1)
	wantTells(t, p, 1, 1, "p")
	wantTells(t, and(p, p), 3, 2, "p")
	wantTells(t, and(row(3, api.OpNot, p), q), 6, 5, "p", "q")
	wantTells(t, and(q, row(3, api.OpNot, p)), 6, 5, "q", "p")
	wantTells(t, and(and(prop("c"), prop("b")), and(prop("a"), and(prop("b"), prop("c")))), 9, 4, "c", "b", "a")
	wantTells(t, spread(3000, p), 5999, 13, "p")
	wantTells(t, row(500, api.OpNext, p), 501, 501, "p")
}

// Trees that are no formulas have them, too: the Names of OpProps alone count, whatever they are.
func TestTellsOfAnyTree(t *testing.T) {
	wantTells(t, op(255), 1, 1)
	wantTells(t, api.Formula{Op: api.OpTrue, Name: "x"}, 1, 1)
	wantTells(t, api.Formula{Op: api.OpNot, Name: "x", Kids: []api.Formula{p}}, 2, 2, "p")
	wantTells(t, api.Formula{Op: api.OpProp, Name: "x", Kids: []api.Formula{q, p, prop("x")}}, 4, 2, "x", "q", "p")
	wantTells(t, op(0, prop(""), prop(`"`), prop(strings.Repeat("a", 40)), prop("")), 5, 2, "", `"`, strings.Repeat("a", 40))
	wantTells(t, op(9, p, next(q), op(0), row(3, 33, prop("\xff"))), 9, 5, "p", "q", "\xff")
	wide := op(api.OpTrue, slices.Repeat([]api.Formula{p, q, p}, 1000)...)
	wantTells(t, wide, 3001, 2, "p", "q")
}

func TestManyNames(t *testing.T) {
	f := op(api.OpTrue)
	var names []string
	for i := range 2000 {
		names = append(names, strings.Repeat("z", i%7)+string(rune('a'+i%13))+strings.Repeat("y", i%11))
		f = and(f, prop(names[i]))
	}
	var once []string
	for _, name := range names {
		if !slices.Contains(once, name) {
			once = append(once, name)
		}
	}
	if got := tree.Names(f); !slices.Equal(got, once) {
		t.Errorf("%q, want %q", got, once)
	}
}

func TestSomeTreesTell(t *testing.T) {
	for _, f := range someTrees() {
		list := pieces(f)
		var names []string
		for _, part := range list {
			if part.Op == api.OpProp && !slices.Contains(names, part.Name) {
				names = append(names, part.Name)
			}
		}
		wantTells(t, f, len(list), deepest(f), names...)
		if got := tree.Copy(f); !same(got, f) {
			t.Errorf("Copy of %s is %s", text(f), text(got))
		}
	}
}

func deepest(f api.Formula) int {
	most := 0
	for _, kid := range f.Kids {
		most = max(most, deepest(kid))
	}
	return most + 1
}

// A copy is one's own: neither sees what is done to the other.
func TestCopyIsItsOwn(t *testing.T) {
	f := and(example(), not(example()))
	before := text(f)
	c := tree.Copy(f)
	spoil(c)
	if text(f) != before {
		t.Error("f has changed")
	}
	c = tree.Copy(f)
	spoil(f)
	if text(c) != before {
		t.Error("the copy has changed")
	}
}

// As deep as the document lets parts nest.
func TestVeryDeep(t *testing.T) {
	const depth = 65536
	f := row(depth-1, api.OpNext, p)
	if tree.Size(f) != depth || tree.Depth(f) != depth || !slices.Equal(tree.Names(f), []string{"p"}) || tree.Right(f) != api.ErrTreeBig || tree.RightPast(f) != api.ErrTreeForm {
		t.Error("what it tells")
	}
	g := row(depth-1, api.OpNext, q)
	if tree.Cmp(f, tree.Copy(f)) != 0 || tree.Cmp(f, g) != -1 || tree.Cmp(g, f) != 1 {
		t.Error("Cmp")
	}
	if part, err := tree.At(f, "0"+strings.Repeat(".0", depth-2)); err != api.OK || !same(part, p) {
		t.Error("At", err)
	}
	if _, err := tree.At(f, "0"+strings.Repeat(".0", depth-1)); err != api.ErrTreePath {
		t.Error("At", err)
	}
	if h, err := tree.Rename(f, []string{"p"}, []string{"q"}); err != api.OK || tree.Cmp(h, g) != 0 {
		t.Error("Rename", err)
	}
	if _, err := tree.Put(f, "p", q); err != api.ErrTreeBig {
		t.Error("Put", err)
	}
	n := 0
	for path := range tree.All(f) {
		if n++; len(path) > 100 {
			break
		}
	}
	if n != 52 {
		t.Error("All", n)
	}
}

func wantSubs(t *testing.T, f api.Formula, want ...api.Formula) {
	t.Helper()
	got := tree.Subs(f)
	if !slices.EqualFunc(got, want, same) {
		t.Errorf("Subs of %.200s: %d, want %d: %v", text(f), len(got), len(want), got)
	}
}

func TestSubs(t *testing.T) {
	wantSubs(t, example(), p, q, next(p), and(q, next(p)), example())
	wantSubs(t, api.Formula{}, api.Formula{})
	wantSubs(t, p, p)
	wantSubs(t, and(p, p), p, and(p, p))
	wantSubs(t, and(q, p), p, q, and(q, p))
	yes := op(api.OpTrue)
	wantSubs(t, and(next(q), not(yes)), yes, q, not(yes), next(q), and(next(q), not(yes)))
	// Size goes ahead of the Op: an OpAnd stands ahead of an OpNext as numbers go.
	wantSubs(t, and(and(p, q), next(p)), p, q, next(p), and(p, q), and(and(p, q), next(p)))
	wantSubs(t, spread(512, not(p)), slices.Collect(func(yield func(api.Formula) bool) {
		if yield(p) {
			for n := 1; n <= 512 && yield(spread(n, not(p))); n *= 2 {
			}
		}
	})...)
}

// Trees are told apart by all that they have, and by nothing else.
func TestSubsOfAnyTree(t *testing.T) {
	one, two := op(api.OpAnd, p), and(p, p)
	wantSubs(t, op(0, two, one, two, one), p, one, two, op(0, two, one, two, one))
	wantSubs(t, op(0, op(api.OpAnd), one, two), p, op(api.OpAnd), one, two, op(0, op(api.OpAnd), one, two))
	named := api.Formula{Op: api.OpTrue, Name: "x"}
	wantSubs(t, op(0, named, op(api.OpTrue), named), op(api.OpTrue), named, op(0, named, op(api.OpTrue), named))
	// So many kids of kids, or kids of kids of kids: the same leaves, other brackets.
	left, right := op(1, op(1, p), q), op(1, p, op(1, q))
	wantSubs(t, op(1, left, right), p, q, op(1, p), op(1, q), left, right, op(1, left, right))
	zero := api.Formula{}
	wantSubs(t, op(0, op(0, zero), zero, op(0, zero, zero)), zero, op(0, zero), op(0, zero, zero), op(0, op(0, zero), zero, op(0, zero, zero)))
}

// Subs against all pieces, each once, in order, kids ahead.
func TestSomeSubs(t *testing.T) {
	for _, f := range someTrees() {
		list := pieces(f)
		slices.SortFunc(list, func(a, b api.Formula) int {
			return cmp.Or(len(pieces(a))-len(pieces(b)), byRule(a, b))
		})
		list = slices.CompactFunc(list, same)
		wantSubs(t, f, list...)
		seen := map[string]int{}
		subs := tree.Subs(f)
		for _, sub := range subs {
			for _, kid := range sub.Kids {
				if seen[text(kid)] != 1 {
					t.Errorf("%s stands ahead of its kid %s", text(sub), text(kid))
				}
			}
			seen[text(sub)]++
		}
		if len(seen) != len(subs) || !same(subs[len(subs)-1], f) {
			t.Errorf("%s: %d of %d are unlike", text(f), len(seen), len(subs))
		}
	}
}

// A great tree in which much stands often is gone through in no long time.
func TestSubsOfAGreatTree(t *testing.T) {
	chain := row(999, api.OpNot, p)
	f := op(api.OpTrue, slices.Repeat([]api.Formula{chain}, 1000)...)
	if got := tree.Subs(f); len(got) != 1001 || tree.Cmp(got[999], chain) != 0 || tree.Cmp(got[1000], f) != 0 {
		t.Error(len(got))
	}
}
