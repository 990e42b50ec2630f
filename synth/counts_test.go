package synth_test

import (
	"math"
	"testing"

	"augur/api"
	"augur/buchi"
	"augur/dfa"
	"augur/empty"
	"augur/nnf"
	"augur/synth"
	"augur/tableau"
	"augur/tree"
)

const most = 150 // nodes and states of what is counted by hand

// countsByHand are a formula's counts, as Y1 says them one by one; false, if it is too great for that.
func countsByHand(t *testing.T, f api.Formula, names []string) (synth.Counts, bool) {
	t.Helper()
	normal, err := nnf.Normal(f)
	dual, err2 := nnf.Dual(f)
	if err != api.OK || err2 != api.OK {
		return synth.Counts{}, false
	}
	c := synth.Counts{
		Nodes:  max(tree.Size(f), tree.Size(normal), tree.Size(dual)),
		Depth:  tree.Depth(f),
		Props:  len(names),
		Splits: max(splitsByHand(normal), splitsByHand(dual)),
	}
	for _, form := range []api.Formula{normal, dual} {
		x, err := tableau.Of(form, names, most)
		if err != api.OK {
			return synth.Counts{}, false
		}
		a, err := buchi.Degen(x.General())
		if err != api.OK {
			return synth.Counts{}, false
		}
		live, err := empty.Live(a)
		if err != api.OK {
			t.Fatal(told(f), err)
		}
		d, err := dfa.Build(a, live, most)
		if err != api.OK {
			return synth.Counts{}, false
		}
		c.Tableau, c.States = max(c.Tableau, x.Len()), max(c.States, len(d.Next))
	}
	return c, true
}

// splitsByHand counts them by their texts, not by Subs.
func splitsByHand(f api.Formula) int {
	seen := map[string]bool{}
	for _, part := range tree.All(f) {
		if part.Op == api.OpOr || part.Op == api.OpUntil || part.Op == api.OpRelease {
			seen[told(part)] = true
		}
	}
	return len(seen)
}

// limitsOf are limits that are just enough for these counts.
func limitsOf(c synth.Counts) api.Limits {
	return api.Limits{Text: c.Text, Nodes: c.Nodes, Depth: c.Depth, Props: c.Props, Splits: c.Splits, Tableau: c.Tableau, States: c.States}
}

// bound is a count, its limit, and what is told if the limit is too small.
type bound struct {
	count, limit int
	err          api.Errno
}

func firstOf(bounds ...bound) api.Errno {
	for _, b := range bounds {
		if b.count > b.limit {
			return b.err
		}
	}
	return api.OK
}

// ofByHand is what Of is to tell of a formula with these counts.
func ofByHand(c synth.Counts, l api.Limits) api.Errno {
	return firstOf(bound{c.Nodes, l.Nodes, api.ErrLimitNodes}, bound{c.Depth, l.Depth, api.ErrLimitDepth}, bound{c.Props, l.Props, api.ErrLimitProps},
		bound{c.Splits, l.Splits, api.ErrLimitSplits}, bound{c.Tableau, l.Tableau, api.ErrLimitTableau}, bound{c.States, l.States, api.ErrLimitStates})
}

// synthesizeByHand is what Synthesize is to tell of such a text.
func synthesizeByHand(c synth.Counts, size int, l api.Limits) api.Errno {
	if err := firstOf(bound{c.Text, l.Text, api.ErrLimitText}, bound{size, l.Nodes, api.ErrLimitNodes}, bound{c.Depth, l.Depth, api.ErrLimitDepth}, bound{c.Props, l.Props, api.ErrLimitProps}); err != api.OK {
		return err
	}
	return ofByHand(c, l)
}

// wantSynthesize and wantOf want the monitor, or that error.
func wantSynthesize(t *testing.T, text string, l api.Limits, err api.Errno, want api.Moore) {
	t.Helper()
	if err != api.OK {
		wantRefused(t, text, l, err, 0)
	} else if m := made(t, text, l); !same(m, want) {
		t.Fatalf("%s, %+v: %+v, want %+v", text, l, m, want)
	}
}

func wantOf(t *testing.T, f api.Formula, names []string, l api.Limits, err api.Errno, want api.Moore) {
	t.Helper()
	if err != api.OK {
		wantOfRefused(t, f, names, l, err)
	} else if m := madeOf(t, f, names, l); !same(m, want) {
		t.Fatalf("%s, %+v: %+v, want %+v", told(f), l, m, want)
	}
}

// counted is a formula's text with its counts and its monitor.
type counted struct {
	text   string
	f      api.Formula
	counts synth.Counts
	m      api.Moore
}

// someCounted are those of people's formulas and of some drawn ones that can be counted by hand.
func someCounted(t *testing.T, n int) []counted {
	t.Helper()
	list := someFormulas(n, 5)
	for _, text := range texts() {
		list = append(list, read(text))
	}
	var all []counted
	for _, f := range list {
		c, ok := countsByHand(t, f, tree.Names(f))
		if ok {
			text := told(f)
			c.Text = len(text)
			all = append(all, counted{text, f, c, made(t, text, wide())})
		}
	}
	if len(all) < n/2 {
		t.Fatalf("%d of %d", len(all), n)
	}
	return all
}

// Y1: the counts, one by one; all of them are counts of some formula's own.
func TestCounts(t *testing.T) {
	var seen [4]int
	for _, x := range someCounted(t, 600) {
		for _, l := range []api.Limits{wide(), limitsOf(x.counts), {Text: math.MaxInt, Nodes: math.MaxInt, Depth: math.MaxInt, Props: math.MaxInt, Splits: math.MaxInt, Tableau: math.MaxInt, States: math.MaxInt}} {
			if c, ok := synth.Count(x.text, l); !ok || c != x.counts {
				t.Fatalf("Count(%s, %+v): %+v, %v; want %+v", x.text, l, c, ok, x.counts)
			}
		}
		c, f := x.counts, x.f
		normal, _ := nnf.Normal(f)
		dual, _ := nnf.Dual(f)
		one, _ := tableau.Of(normal, tree.Names(f), most)
		other, _ := tableau.Of(dual, tree.Names(f), most)
		for i, is := range []bool{c.Nodes > tree.Size(f), tree.Size(normal) > tree.Size(dual), splitsByHand(normal) > splitsByHand(dual), one.Len() < other.Len()} {
			if is {
				seen[i]++
			}
		}
	}
	for i, n := range seen {
		if n < 20 {
			t.Errorf("%d: %d formulas", i, n)
		}
	}
}

// Blanks and brackets count as bytes of a text alone.
func TestCountsOfText(t *testing.T) {
	want, ok := synth.Count("a U b", wide())
	if !ok {
		t.Fatal("a U b")
	}
	for _, text := range []string{"a  U b", "(a U b)", " ((a) U ((b)))\n"} {
		want.Text = len(text)
		if c, ok := synth.Count(text, wide()); !ok || c != want {
			t.Errorf("%q: %+v, %v", text, c, ok)
		}
	}
}

// Y2 and T2: each limit bounds its count and nothing else: what is just enough is enough, whatever the others are; with one less it is the limit that is told.
func TestEachLimit(t *testing.T) {
	for _, x := range someCounted(t, 80) {
		for which := range 7 {
			for _, far := range []int{0, 1, 7, math.MaxInt} {
				l := limitsOf(x.counts)
				field := []*int{&l.Text, &l.Nodes, &l.Depth, &l.Props, &l.Splits, &l.Tableau, &l.States}[which]
				exact := *field
				if far == math.MaxInt {
					*field = math.MaxInt
				} else {
					*field = exact + far
				}
				wantSynthesize(t, x.text, l, api.OK, x.m)
				wantOf(t, x.f, tree.Names(x.f), l, api.OK, x.m)
				if far == math.MaxInt {
					*field = math.MinInt
				} else {
					*field = exact - 1 - far
				}
				numbers := []api.Errno{api.ErrLimitText, api.ErrLimitNodes, api.ErrLimitDepth, api.ErrLimitProps, api.ErrLimitSplits, api.ErrLimitTableau, api.ErrLimitStates}
				wantSynthesize(t, x.text, l, numbers[which], x.m)
				if which == 0 {
					numbers[which] = api.OK // Text bounds nothing of Of
				}
				wantOf(t, x.f, tree.Names(x.f), l, numbers[which], x.m)
			}
		}
	}
}

// Y2 and R1: of several limits that are too small the first one is told, in each call's own order.
func TestFirstLimit(t *testing.T) {
	d := draw(16)
	told := map[api.Errno]int{}
	for _, x := range someCounted(t, 120) {
		for mask := range 1 << 7 {
			l := limitsOf(x.counts)
			for i, field := range []*int{&l.Text, &l.Nodes, &l.Depth, &l.Props, &l.Splits, &l.Tableau, &l.States} {
				if mask>>i&1 != 0 {
					*field -= 1 + d.below(3)*d.below(*field+2)
				}
			}
			err, ofErr := synthesizeByHand(x.counts, tree.Size(x.f), l), ofByHand(x.counts, l)
			wantSynthesize(t, x.text, l, err, x.m)
			wantOf(t, x.f, tree.Names(x.f), l, ofErr, x.m)
			told[err]++
			if err != api.ErrLimitText && err != ofErr {
				told[api.ErrArg]++ // the orders are unlike: NODES come ahead of Depth and Props in Of alone
			}
		}
	}
	for _, err := range []api.Errno{api.OK, api.ErrLimitText, api.ErrLimitNodes, api.ErrLimitDepth, api.ErrLimitProps, api.ErrLimitSplits, api.ErrLimitTableau, api.ErrLimitStates, api.ErrArg} {
		if told[err] < 20 {
			t.Errorf("%v was to be told %d times", err, told[err])
		}
	}
}

// NODES come behind the formula's own Depth and names in Synthesize, ahead of them in Of.
func TestOrderOfNodes(t *testing.T) {
	f := read("a <-> b")
	l := wide()
	l.Nodes, l.Depth = 3, 1
	wantRefused(t, "a <-> b", l, api.ErrLimitDepth, 0)
	wantOfRefused(t, f, ab(), l, api.ErrLimitNodes)
	l.Depth, l.Props = 2, 1
	wantRefused(t, "a <-> b", l, api.ErrLimitProps, 0)
	wantOfRefused(t, f, ab(), l, api.ErrLimitNodes)
	l.Props, l.Splits = 2, 0
	wantRefused(t, "a <-> b", l, api.ErrLimitNodes, 0)
	l.Nodes, l.Depth = 2, 1
	wantRefused(t, "a <-> b", l, api.ErrLimitNodes, 0)
}

// Of: names that the formula lacks are counted, and double the letters alone.
func TestPropsOfOf(t *testing.T) {
	f, l := read("a U b"), wide()
	for n := 2; n <= 8; n++ {
		l.Props = n - 1
		wantOfRefused(t, f, names8()[:n], l, api.ErrLimitProps)
		l.Props = n
		m := madeOf(t, f, names8()[:n], l)
		if len(m.Next) != 3 || len(m.Next[0]) != 1<<n {
			t.Errorf("over %d names: %d states, %d letters", n, len(m.Next), len(m.Next[0]))
		}
	}
}

// With limits of nought and below nothing is taken that has anything to count.
func TestNoLimits(t *testing.T) {
	wantRefused(t, "true", api.Limits{}, api.ErrLimitText, 0)
	wantOfRefused(t, op(api.OpTrue), nil, api.Limits{}, api.ErrLimitNodes)
	l := api.Limits{Text: 4, Nodes: 1, Depth: 1, Tableau: 2, States: 2}
	if m := made(t, "true", l); !same(m, machine(nil, st(1, 0))) {
		t.Errorf("%+v", m)
	}
	if m := madeOf(t, op(api.OpTrue), nil, l); !same(m, machine(nil, st(1, 0))) {
		t.Errorf("%+v", m)
	}
	l.Splits = -1
	wantRefused(t, "true", l, api.ErrLimitSplits, 0)
	l.Splits, l.Props = 0, -1
	wantRefused(t, "true", l, api.ErrLimitProps, 0)
	wantOfRefused(t, op(api.OpTrue), nil, l, api.ErrLimitProps)
}
