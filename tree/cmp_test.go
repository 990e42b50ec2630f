package tree_test

import (
	"slices"
	"strings"
	"testing"

	"augur/api"
	"augur/tree"
)

// byRule says the chapter's order again, in another way.
func byRule(a, b api.Formula) int {
	switch {
	case a.Op < b.Op:
		return -1
	case a.Op > b.Op:
		return 1
	case a.Name != b.Name:
		return strings.Compare(a.Name, b.Name)
	case len(a.Kids) < len(b.Kids):
		return -1
	case len(a.Kids) > len(b.Kids):
		return 1
	}
	for i := range a.Kids {
		if c := byRule(a.Kids[i], b.Kids[i]); c != 0 {
			return c
		}
	}
	return 0
}

// Each stands ahead of all behind it.
func TestCmpInOrder(t *testing.T) {
	list := []api.Formula{
		{}, {Op: 0, Name: "z"}, op(api.OpTrue), op(api.OpTrue, op(255)), {Op: api.OpTrue, Name: "a"}, op(api.OpFalse),
		prop(""), prop(" "), prop("A"), prop("a"), {Op: api.OpProp, Name: "a", Kids: []api.Formula{{}}}, prop("a\x00"), prop("aa"), prop("ab"), prop("b"), prop("z"), prop("é"), prop("\xff"),
		not(op(api.OpTrue)), not(p), not(q), not(not(p)), op(api.OpNot, op(0), op(0)), {Op: api.OpNot, Name: "a"},
		op(api.OpAnd), op(api.OpAnd, q), and(op(api.OpTrue), next(q)), and(p, p), and(p, q), and(p, next(p)), and(q, p), and(q, q), op(api.OpAnd, p, p, p),
		op(api.OpOr, p, p), op(api.OpImp, p, p), op(api.OpIff, p, p), next(p), next(next(p)), op(api.OpEvent, p), op(api.OpAlways, p), op(api.OpUntil, p, p), op(api.OpRelease, p, p),
		op(api.OpWeak, p, p), op(api.OpStrong, p, p), op(api.OpYest, p), op(api.OpWeakYest, p), op(api.OpOnce, p), op(api.OpHist, p), op(api.OpSince, p, p), op(api.OpTrig, p, p),
		op(api.OpTrig + 1), op(127, p), op(128), op(255), op(255, p),
	}
	for i, a := range list {
		for k, b := range list {
			want := 0
			if i < k {
				want = -1
			} else if i > k {
				want = 1
			}
			if got := tree.Cmp(a, b); got != want {
				t.Errorf("Cmp of %s and %s: %d, want %d", text(a), text(b), got, want)
			}
		}
	}
}

// Cmp against the rule; 0 just of the same; the other way round it is the other way round.
func TestCmpOfPairs(t *testing.T) {
	list := someTrees()[:400]
	for _, a := range list {
		for _, b := range list {
			got := tree.Cmp(a, b)
			if got != byRule(a, b) || got != -tree.Cmp(b, a) || (got == 0) != (text(a) == text(b)) {
				t.Fatalf("Cmp of %s and %s: %d", text(a), text(b), got)
			}
		}
	}
}

// What holds: it is an order.
func TestCmpIsAnOrder(t *testing.T) {
	list := append(oddities(), someTrees()[100:200]...)
	for _, a := range list {
		if tree.Cmp(a, a) != 0 || tree.Cmp(a, tree.Copy(a)) != 0 {
			t.Errorf("%s stands ahead of itself", text(a))
		}
		for _, b := range list {
			for _, c := range list {
				if tree.Cmp(a, b) <= 0 && tree.Cmp(b, c) <= 0 && tree.Cmp(a, c) > 0 {
					t.Fatalf("%s, %s, %s", text(a), text(b), text(c))
				}
			}
		}
	}
	sorted := slices.Clone(list)
	slices.SortFunc(sorted, tree.Cmp)
	if !slices.IsSortedFunc(sorted, byRule) {
		t.Error("not in the rule's order")
	}
}
