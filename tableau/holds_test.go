package tableau_test

import (
	"slices"
	"testing"

	"augur/api"
	"augur/eval"
	"augur/tableau"
	"augur/tree"
	"augur/words"
)

// spot is a state at a place of a word.
type spot struct{ state, place int }

// accepts tells whether an automaton has a run on a word that meets all sets again and again.
func accepts(g api.General, w api.Word) bool {
	next := map[int][]api.Edge{}
	for _, e := range g.Edges {
		next[e.From] = append(next[e.From], e)
	}
	behind := func(s spot) []spot {
		letter := words.At(w, s.place)
		var list []spot
		for _, e := range next[s.state] {
			if letter&e.Must == e.Must && letter&e.Not == 0 {
				list = append(list, spot{e.To, words.Behind(w, s.place)})
			}
		}
		return list
	}
	var first []spot
	for _, q := range g.Init {
		first = append(first, spot{q, 0})
	}
	left := reached(first, behind)
	// A round that meets all sets may go through each spot from which it comes back to itself.
	for s := range left {
		if s.place != words.Behind(w, words.Places(w)-1) {
			continue
		}
		round := reached(behind(s), behind)
		if _, back := round[s]; !back {
			continue
		}
		if meetsAll(g, s, round, behind) {
			return true
		}
	}
	return false
}

// meetsAll tells whether of each set some state stands in the round of s: reached from it, and it from there.
func meetsAll(g api.General, s spot, round map[spot]bool, behind func(spot) []spot) bool {
	met := make([]bool, len(g.Sets))
	for r := range round {
		if !reached([]spot{r}, behind)[s] {
			continue
		}
		for i, set := range g.Sets {
			met[i] = met[i] || slices.Contains(set, r.state)
		}
	}
	return !slices.Contains(met, false)
}

func reached(first []spot, behind func(spot) []spot) map[spot]bool {
	seen := map[spot]bool{}
	for len(first) > 0 {
		s := first[0]
		first = first[1:]
		if !seen[s] {
			seen[s] = true
			first = append(first, behind(s)...)
		}
	}
	return seen
}

// someWords are small ones over p and q, and some longer ones.
func someWords() []api.Word {
	list := slices.Collect(words.All(2, 2))
	d := draw(5)
	for range 12 {
		var w api.Word
		for range d.below(5) {
			w.Stem = append(w.Stem, uint16(d.below(4)))
		}
		for range 1 + d.below(4) {
			w.Loop = append(w.Loop, uint16(d.below(4)))
		}
		list = append(list, w)
	}
	return list
}

// T6, with chapter 6: General accepts just the words of which the formula holds.
func TestSameLanguage(t *testing.T) {
	list := small()
	for _, text := range []string{"G F p", "F G p", "G (p -> F q)", "p W q", "p M q", "!(p U X !q)", "G F p & G F q", "F G p | F G q", "(p U q) U p", "G (p -> X (!p U q))", "F (p & X F (q & X F p))", "(p <-> X q) U q"} {
		list = append(list, normal(text))
	}
	all := someWords()
	var yes, no int
	for _, f := range append(list, someFormulas(300, 5, 6)...) {
		x := of(t, f, pq())
		if x.Len() > 40 {
			continue
		}
		g := x.General()
		for i, w := range all {
			if i%3 != tree.Size(f)%3 {
				continue
			}
			holds, err := eval.Holds(f, pq(), w)
			if err != api.OK {
				t.Fatal(err)
			}
			if accepts(g, w) != holds {
				t.Fatalf("%s of %v: %v", told(f), w, holds)
			}
			if holds {
				yes++
			} else {
				no++
			}
		}
	}
	if yes < 5000 || no < 5000 {
		t.Errorf("%d accepted, %d not", yes, no)
	}
}

// in tells whether a formula is among those at these places of Subs.
func in(subs []api.Formula, list []int, f api.Formula) bool {
	return slices.ContainsFunc(list, func(at int) bool { return tree.Cmp(subs[at], f) == 0 })
}

// wantSides wants what is in the Old of a node to be so: of & and X all of it, of |, U and R one side.
func wantSides(t *testing.T, x *tableau.Tableau, subs []api.Formula, n int) {
	t.Helper()
	old, due := x.Old(n), x.Due(n)
	for _, at := range old {
		f := subs[at]
		so := true
		var a, b bool
		if len(f.Kids) == 2 {
			a, b = in(subs, old, f.Kids[0]), in(subs, old, f.Kids[1])
		}
		switch later := slices.Contains(due, at); f.Op {
		case api.OpFalse:
			so = false
		case api.OpNot:
			so = !in(subs, old, f.Kids[0])
		case api.OpAnd:
			so = a && b
		case api.OpOr:
			so = a || b
		case api.OpNext:
			so = in(subs, due, f.Kids[0])
		case api.OpUntil:
			so = b || a && later
		case api.OpRelease:
			so = b && (a || later)
		}
		if !so {
			t.Fatalf("%s: node %d: Old %v, Due %v: not so at %d", told(subs[len(subs)-1]), n, old, due, at)
		}
	}
}

// Of each node what its Old says is so; no two nodes have the same Old and Due; successors have in Old what was due.
func TestWhatOldSays(t *testing.T) {
	for _, f := range append(small(), someFormulas(300, 6, 9)...) {
		x := of(t, f, pq())
		if x.Len() > 500 {
			continue
		}
		subs := x.Subs()
		for n := range x.Len() {
			wantSides(t, x, subs, n)
			for m := range n {
				if slices.Equal(x.Old(m), x.Old(n)) && slices.Equal(x.Due(m), x.Due(n)) {
					t.Fatalf("%s: nodes %d and %d are alike", told(f), m, n)
				}
			}
			due := x.Due(n)
			for _, to := range x.Next(n) {
				old := x.Old(to)
				if slices.ContainsFunc(due, func(at int) bool { return !slices.Contains(old, at) }) {
					t.Fatalf("%s: Due of %d: %v; Old of %d: %v", told(f), n, due, to, old)
				}
			}
		}
		for _, n := range x.Init() {
			if !in(subs, x.Old(n), f) {
				t.Fatalf("%s: beginning %d", told(f), n)
			}
		}
	}
}

// tells is all that a tableau says.
type tells struct {
	subs          []string
	length        int
	init          []int
	next, old     [][]int
	due           [][]int
	must, not     []uint16
	general       api.General
	beyond, below int
}

func tell(x *tableau.Tableau) tells {
	s := tells{length: x.Len(), init: x.Init(), general: x.General(), beyond: len(x.Next(x.Len())), below: len(x.Next(-1))}
	for _, f := range x.Subs() {
		s.subs = append(s.subs, show(f))
	}
	for n := range x.Len() {
		s.next, s.old, s.due = append(s.next, x.Next(n)), append(s.old, x.Old(n)), append(s.due, x.Due(n))
		s.must, s.not = append(s.must, x.Must(n)), append(s.not, x.Not(n))
	}
	return s
}

func (s tells) same(o tells) bool {
	lists := func(a, b [][]int) bool { return slices.EqualFunc(a, b, slices.Equal[[]int]) }
	return slices.Equal(s.subs, o.subs) && s.length == o.length && slices.Equal(s.init, o.init) && lists(s.next, o.next) && lists(s.old, o.old) && lists(s.due, o.due) &&
		slices.Equal(s.must, o.must) && slices.Equal(s.not, o.not) && sameGeneral(s.general, o.general) && s.beyond == o.beyond && s.below == o.below
}

// The same nodes with the same numbers, whatever one did first: made again, among others, with another limit, asked in another order, by several at one time.
func TestWhateverWasFirst(t *testing.T) {
	list := append(someFormulas(60, 6, 9), small()[:200]...)
	var first []tells
	for _, f := range list {
		first = append(first, tell(of(t, f, pq())))
	}
	for i := len(list) - 1; i >= 0; i-- {
		x, err := tableau.Of(list[i], pq(), first[i].length)
		if err != api.OK {
			t.Fatal(told(list[i]), err)
		}
		if first[i].length > 0 {
			wantNone(t, list[i], pq(), first[i].length-1, api.ErrLimitTableau)
		}
		for n := x.Len() - 1; n >= 0; n-- {
			x.Due(n)
			x.Next(n)
			x.Old(n)
		}
		x.General()
		done := make(chan tells)
		for range 3 {
			go func() { done <- tell(x) }()
		}
		for range 3 {
			if got := <-done; !got.same(first[i]) {
				t.Fatalf("%s: %+v, and then %+v", told(list[i]), first[i], got)
			}
		}
		if got := tell(x); !got.same(first[i]) {
			t.Fatalf("%s: %+v, and then %+v", told(list[i]), first[i], got)
		}
	}
}
