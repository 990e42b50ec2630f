package tableau_test

import (
	"slices"
	"testing"

	"augur/api"
	"augur/tree"
)

// spoil changes all of a tree.
func spoil(f *api.Formula) {
	for i := range f.Kids {
		spoil(&f.Kids[i])
	}
	*f = prop("spoilt")
}

// R2: what is handed in stays as it is, with the room behind it; and nothing of it is kept.
func TestLent(t *testing.T) {
	for _, f := range append(someFormulas(200, 5, 8), small()[:200]...) {
		want := tell(of(t, f, pq()))
		asked := tree.Copy(f)
		names := []string{"p", "q", "room"}
		x := of(t, asked, names[:2])
		if show(asked) != show(f) || !slices.Equal(names, []string{"p", "q", "room"}) {
			t.Fatalf("%s, %q", show(asked), names)
		}
		if got := tell(x); !got.same(want) {
			t.Fatalf("%s: %+v, want %+v", told(f), got, want)
		}
		if show(asked) != show(f) || !slices.Equal(names, []string{"p", "q", "room"}) {
			t.Fatalf("%s, %q", show(asked), names)
		}
		kids := asked.Kids
		for i := range kids {
			spoil(&kids[i])
		}
		names[0], names[1] = "q", "p"
		if got := tell(x); !got.same(want) {
			t.Fatalf("%s: %+v, want %+v", told(f), got, want)
		}
	}
	for _, names := range [][]string{{"p", "p"}, {"q"}} {
		f := read("p U (p & q)")
		kept := slices.Clone(names)
		wantNone(t, f, names, 9, api.ErrTableauProp)
		if show(f) != show(read("p U (p & q)")) || !slices.Equal(names, kept) {
			t.Errorf("%s, %q", show(f), names)
		}
	}
}

// memory notes which memory lists have, the room behind them with it, and spoils it. (By where each item is: pointers of one type are alike just if they point to one thing.)
type memory struct {
	t    *testing.T
	seen map[any]string
}

func note[T any](m memory, who string, list []T, spoilt T) {
	m.t.Helper()
	whole := list[:cap(list)]
	for i := range whole {
		at := any(&whole[i])
		if other, twice := m.seen[at]; twice {
			m.t.Fatalf("%s shares memory with %s", who, other)
		}
		m.seen[at] = who
		whole[i] = spoilt
	}
}

func (m memory) formula(who string, f api.Formula) {
	m.t.Helper()
	for _, kid := range f.Kids {
		m.formula(who, kid)
	}
	note(m, who, f.Kids, prop("spoilt"))
}

func (m memory) general(g api.General) {
	m.t.Helper()
	for _, set := range g.Sets {
		note(m, "a set", set, 99)
	}
	note(m, "Sets", g.Sets, []int{99})
	note(m, "Props", g.Props, "spoilt")
	note(m, "the automaton's Init", g.Init, 99)
	note(m, "Edges", g.Edges, api.Edge{From: 99})
}

// R2: lists that come out are the asker's own, lists within lists too, with the room behind them; a tableau never changes.
func TestOwnLists(t *testing.T) {
	for _, text := range []string{"p U q", "(p U q) U (q R (p U !q))", "X (p & X q)", "G (p -> F q)", "G F p & G F q", "p & !p & (p U q)"} {
		f := normal(text)
		want := tell(of(t, f, pq()))
		x := of(t, f, pq())
		m := memory{t, map[any]string{}}
		for range 3 {
			subs := x.Subs()
			for _, s := range subs {
				m.formula("Subs' kids", s)
			}
			note(m, "Subs", subs, prop("spoilt"))
			init := x.Init()
			note(m, "Init", init, 99)
			for n := range x.Len() {
				next, old, due := x.Next(n), x.Old(n), x.Due(n)
				note(m, "Next", next, 99)
				note(m, "Old", old, 99)
				note(m, "Due", due, 99)
			}
			g := x.General()
			m.general(g)
			if got := tell(x); !got.same(want) {
				t.Fatalf("%s: %+v, want %+v", text, got, want)
			}
		}
	}
}

// R4: tableaux know nothing of one another.
func TestOthers(t *testing.T) {
	f, g := normal("G (p -> F q)"), normal("(p U q) U (q R p)")
	want := tell(of(t, f, pq()))
	x := of(t, f, pq())
	y := of(t, g, []string{"q", "p"})
	other := tell(y)
	of(t, f, []string{"q", "p"})
	if got := tell(x); !got.same(want) {
		t.Errorf("%+v, want %+v", got, want)
	}
	if got := tell(y); !got.same(other) {
		t.Errorf("%+v, want %+v", got, other)
	}
}

// R6: a list that is nil and one that is empty are the same.
func TestNilAndEmpty(t *testing.T) {
	nils := op(api.OpNext, op(api.OpTrue))
	empty := api.Formula{Op: api.OpNext, Kids: []api.Formula{{Op: api.OpTrue, Kids: []api.Formula{}}}}
	want := tell(of(t, nils, nil))
	for _, names := range [][]string{nil, {}} {
		for _, f := range []api.Formula{nils, empty} {
			if got := tell(of(t, f, names)); !got.same(want) {
				t.Errorf("%+v, want %+v", got, want)
			}
		}
		wantNone(t, prop("p"), names, 9, api.ErrTableauProp)
	}
}
