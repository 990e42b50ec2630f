package tableau_test

import (
	"cmp"
	"math"
	"slices"
	"testing"

	"augur/api"
	"augur/tableau"
	"augur/tree"
)

// pair is an Old and a Due: of each place, from the last to the first, 1 or 0. As texts they stand in the order of the numbers that have these bits.
type pair struct{ old, due string }

// byHand is a formula's nodes as the chapter's words say them: by all choices.
type byHand struct {
	subs   []api.Formula
	kids   [][]int
	splits []int // of each place, its number among |, U and R; or -1
	many   int   // how many of these there are
	nodes  []pair
	next   [][]int
	init   []int
}

func newByHand(f api.Formula) *byHand {
	h := &byHand{subs: tree.Subs(f)}
	places := map[string]int{}
	for at, s := range h.subs {
		places[show(s)] = at
		var kids []int
		for _, kid := range s.Kids {
			kids = append(kids, places[show(kid)])
		}
		h.kids = append(h.kids, kids)
		split := -1
		if s.Op == api.OpOr || s.Op == api.OpUntil || s.Op == api.OpRelease {
			split = h.many
			h.many++
		}
		h.splits = append(h.splits, split)
	}
	numbers := map[pair]int{}
	h.init = h.number(numbers, h.fits(digits(len(h.subs), func(at int) bool { return at == len(h.subs)-1 })))
	rows := map[string][]pair{}
	for n := 0; n < len(h.nodes); n++ {
		due := h.nodes[n].due
		if _, known := rows[due]; !known {
			rows[due] = h.fits(due)
		}
		h.next = append(h.next, h.number(numbers, rows[due]))
	}
	return h
}

func digits(n int, has func(at int) bool) string {
	s := make([]byte, n)
	for i := range s {
		s[i] = '0'
		if has(n - 1 - i) {
			s[i] = '1'
		}
	}
	return string(s)
}

func places(s string) []int {
	var list []int
	for at := range len(s) {
		if s[len(s)-1-at] == '1' {
			list = append(list, at)
		}
	}
	return list
}

// number gives those pairs that have no number the next ones, in their order; the numbers of all, rising.
func (h *byHand) number(numbers map[pair]int, pairs []pair) []int {
	slices.SortFunc(pairs, func(a, b pair) int { return cmp.Or(cmp.Compare(a.old, b.old), cmp.Compare(a.due, b.due)) })
	var list []int
	for _, p := range pairs {
		if _, known := numbers[p]; !known {
			numbers[p] = len(h.nodes)
			h.nodes = append(h.nodes, p)
		}
		list = append(list, numbers[p])
	}
	slices.Sort(list)
	return list
}

// fits are the unlike pairs that fit a set.
func (h *byHand) fits(s string) []pair {
	found := map[pair]bool{}
	var list []pair
	for choice := range 1 << h.many {
		if p, is := h.chosen(s, choice); is && !found[p] {
			found[p] = true
			list = append(list, p)
		}
	}
	return list
}

// chosen is the pair that comes by a choice, if one does. A formula's kids stand ahead of it in Subs, so one way through them backwards is enough.
func (h *byHand) chosen(s string, choice int) (pair, bool) {
	n := len(h.subs)
	old, due := make([]bool, n), make([]bool, n)
	for at := range old {
		old[at] = s[n-1-at] == '1'
	}
	for at := n - 1; at >= 0; at-- {
		if !old[at] {
			continue
		}
		kids := h.kids[at]
		one := h.splits[at] >= 0 && choice>>h.splits[at]&1 == 0
		switch h.subs[at].Op {
		case api.OpFalse:
			return pair{}, false
		case api.OpAnd:
			old[kids[0]], old[kids[1]] = true, true
		case api.OpOr:
			if one {
				old[kids[0]] = true
			} else {
				old[kids[1]] = true
			}
		case api.OpNext:
			due[kids[0]] = true
		case api.OpUntil:
			if one {
				old[kids[1]] = true
			} else {
				old[kids[0]], due[at] = true, true
			}
		case api.OpRelease:
			old[kids[1]] = true
			if one {
				old[kids[0]] = true
			} else {
				due[at] = true
			}
		}
	}
	for at, s := range h.subs {
		if s.Op == api.OpNot && old[at] && old[h.kids[at][0]] {
			return pair{}, false
		}
	}
	return pair{digits(n, func(at int) bool { return old[at] }), digits(n, func(at int) bool { return due[at] })}, true
}

// named are the bits of the names of which p (of o OpProp) or !p (of OpNot) is in Old.
func (h *byHand) named(o api.Op, old string, names []string) uint16 {
	var bits uint16
	for _, at := range places(old) {
		s := h.subs[at]
		if s.Op != o {
			continue
		}
		if o == api.OpNot {
			s = s.Kids[0]
		}
		bits |= 1 << slices.Index(names, s.Name)
	}
	return bits
}

func (h *byHand) general(names []string) api.General {
	g := api.General{Props: names, States: len(h.nodes), Init: h.init}
	for n, p := range h.nodes {
		for _, to := range h.next[n] {
			g.Edges = append(g.Edges, api.Edge{From: n, To: to, Must: h.named(api.OpProp, p.old, names), Not: h.named(api.OpNot, p.old, names)})
		}
	}
	for at, s := range h.subs {
		if s.Op != api.OpUntil {
			continue
		}
		var list []int
		for n, p := range h.nodes {
			if old := places(p.old); !slices.Contains(old, at) || slices.Contains(old, h.kids[at][1]) {
				list = append(list, n)
			}
		}
		g.Sets = append(g.Sets, list)
	}
	return g
}

func sameGeneral(a, b api.General) bool {
	return slices.Equal(a.Props, b.Props) && a.States == b.States && slices.Equal(a.Init, b.Init) && slices.Equal(a.Edges, b.Edges) && slices.EqualFunc(a.Sets, b.Sets, slices.Equal[[]int])
}

// wantSame wants all that a tableau says to be as it is by hand.
func wantSame(t *testing.T, x *tableau.Tableau, h *byHand, names []string) {
	t.Helper()
	f := told(h.subs[len(h.subs)-1])
	if !slices.EqualFunc(x.Subs(), h.subs, func(a, b api.Formula) bool { return tree.Cmp(a, b) == 0 }) {
		t.Fatalf("%.300s: Subs", f)
	}
	if x.Len() != len(h.nodes) || !slices.Equal(x.Init(), h.init) {
		t.Fatalf("%.300s: Len %d, Init %v; want %d, %v", f, x.Len(), x.Init(), len(h.nodes), h.init)
	}
	for n, p := range h.nodes {
		if !slices.Equal(x.Old(n), places(p.old)) || !slices.Equal(x.Due(n), places(p.due)) || !slices.Equal(x.Next(n), h.next[n]) {
			t.Fatalf("%.300s: %d: Old %v, Due %v, Next %v; want %v, %v, %v", f, n, x.Old(n), x.Due(n), x.Next(n), places(p.old), places(p.due), h.next[n])
		}
		must, not := h.named(api.OpProp, p.old, names), h.named(api.OpNot, p.old, names)
		if x.Must(n) != must || x.Not(n) != not {
			t.Fatalf("%.300s: %d: Must %d, Not %d; want %d, %d", f, n, x.Must(n), x.Not(n), must, not)
		}
	}
	for _, n := range []int{-1, x.Len(), x.Len() + 1, math.MinInt, math.MaxInt, 1 << 32} {
		wantNothing(t, x, n)
	}
	if g, want := x.General(), h.general(names); !sameGeneral(g, want) {
		t.Fatalf("%.300s: %+v, want %+v", f, g, want)
	}
}

// wantLimit wants just so many nodes to be enough.
func wantLimit(t *testing.T, f api.Formula, names []string, nodes int) {
	t.Helper()
	for _, most := range []int{nodes, nodes + 1, 10*nodes + 7, 1 << 32, math.MaxInt} {
		if x, err := tableau.Of(f, names, most); err != api.OK || x.Len() != nodes {
			t.Fatalf("%.300s, which has %d nodes, with %d: %v", told(f), nodes, most, err)
		}
	}
	for _, most := range []int{nodes - 1, nodes / 2, 1, 0, -1, math.MinInt} {
		if most < nodes {
			wantNone(t, f, names, most, api.ErrLimitTableau)
		}
	}
}

// The nodes and their numbers are those of the definition; the limit is held against their count.
func TestNodes(t *testing.T) {
	list := append(small(), someFormulas(1500, 4, 7)...)
	for _, f := range append(list, someFormulas(300, 6, 9)...) {
		h := newByHand(f)
		wantSame(t, of(t, f, pq()), h, pq())
		wantLimit(t, f, pq(), len(h.nodes))
	}
}

// Other lists of names: the nodes stay, the bits are by the places in the list.
func TestOtherLists(t *testing.T) {
	for _, f := range someFormulas(200, 5, 6) {
		h := newByHand(f)
		for _, names := range [][]string{{"q", "p"}, {"a", "q", "b", "p"}, {"1", "2", "3", "4", "5", "6", "p", "q"}, {"q", "2", "3", "4", "5", "6", "7", "p"}} {
			wantSame(t, of(t, f, names), h, names)
		}
	}
	x := of(t, read(`"a b" & !h`), []string{"h", "1", "2", "3", "4", "5", "6", "a b"})
	if x.Must(0) != 128 || x.Not(0) != 1 {
		t.Errorf("Must %d, Not %d", x.Must(0), x.Not(0))
	}
	for _, names := range [][]string{nil, {}, {"p"}, names8()} {
		f := read("X true U (true & X false)")
		wantSame(t, of(t, f, names), newByHand(f), names)
	}
}

// All eight names, each by itself and against itself.
func TestEightNames(t *testing.T) {
	d := draw(8)
	for range 150 {
		f := d.formula(5, names8()...)
		if splitsOf(f) > 8 {
			continue
		}
		wantSame(t, of(t, f, names8()), newByHand(f), names8())
	}
	for i, name := range names8() {
		p := prop(name)
		if x := of(t, p, names8()); x.Must(0) != 1<<i || x.Not(0) != 0 {
			t.Errorf("%s: %d, %d", name, x.Must(0), x.Not(0))
		}
		if x := of(t, op(api.OpNot, p), names8()); x.Must(0) != 0 || x.Not(0) != 1<<i {
			t.Errorf("!%s: %d, %d", name, x.Must(0), x.Not(0))
		}
		if x := of(t, op(api.OpAnd, op(api.OpNot, p), p), names8()); x.Len() != 0 {
			t.Errorf("%s and its negation: %d nodes", name, x.Len())
		}
	}
}
