package empty_test

import (
	"cmp"
	"math"
	"slices"
	"strings"
	"testing"

	"augur/api"
	"augur/bits"
	"augur/buchi"
	"augur/empty"
)

// The calls as the chapter lists them.
var (
	_ func(api.Buchi) (*bits.Set, api.Errno)              = empty.Live
	_ func(api.Buchi) (bool, api.Errno)                   = empty.Empty
	_ func(api.Buchi) (api.Word, bool, api.Errno)         = empty.Witness
	_ func(api.Buchi, ...int) (api.Word, bool, api.Errno) = empty.From
)

func TestNumbers(t *testing.T) {
	if api.OK != 0 || api.ErrArg != 1 || api.ErrEmptyForm != 120 {
		t.Errorf("%d, %d, %d", api.OK, api.ErrArg, api.ErrEmptyForm)
	}
}

// example is the automaton of the chapter's examples.
func example(final ...int) api.Buchi {
	edges := []api.Edge{{From: 0, To: 0}, {From: 0, To: 1, Must: 1}, {From: 1, To: 2, Not: 1}, {From: 2, To: 1, Must: 1}}
	return api.Buchi{Props: []string{"p"}, States: 3, Init: []int{0}, Edges: edges, Final: final}
}

func names8() []string { return strings.Split("a b c d e f g h", " ") }

// below are the numbers from 0 on.
func below(n int) []int {
	list := make([]int, n)
	for i := range list {
		list[i] = i
	}
	return list
}

func rising(a, b api.Edge) int {
	return cmp.Or(a.From-b.From, a.To-b.To, int(a.Must)-int(b.Must), int(a.Not)-int(b.Not))
}

// automaton is one over so many names, with those edges in their order.
func automaton(props, states int, final []int, edges ...api.Edge) api.Buchi {
	slices.SortFunc(edges, rising)
	return api.Buchi{Props: names8()[:props], States: states, Edges: slices.Compact(edges), Final: final}
}

// draw are numbers that look as if nobody knew them, always the same.
type draw uint32

func (d *draw) below(n int) int {
	*d = *d*1664525 + 1013904223
	return int(*d>>8) % n
}

// some are some of the numbers below n: of five that many.
func (d *draw) some(n, ofFive int) []int {
	var list []int
	for i := range n {
		if d.below(5) < ofFive {
			list = append(list, i)
		}
	}
	return list
}

// automaton has 1 to so many states, over so many names.
func (d *draw) automaton(states, props int) api.Buchi {
	n := 1 + d.below(states)
	var edges []api.Edge
	for range d.below(3*n + 1) {
		e := api.Edge{From: d.below(n), To: d.below(n)}
		for i := range props {
			switch d.below(4) {
			case 0:
				e.Must |= 1 << i
			case 1:
				e.Not |= 1 << i
			}
		}
		edges = append(edges, e)
	}
	a := automaton(props, n, d.some(n, 2), edges...)
	a.Init = d.some(n, 2)
	return a
}

func sameWord(w, v api.Word) bool {
	return slices.Equal(w.Stem, v.Stem) && slices.Equal(w.Loop, v.Loop)
}

// wantFrom wants that lasso; a word without a loop: that there is none.
func wantFrom(t *testing.T, a api.Buchi, states []int, want api.Word) {
	t.Helper()
	w, found, err := empty.From(a, states...)
	if err != api.OK || found != (len(want.Loop) > 0) || !sameWord(w, want) {
		t.Fatalf("From(%+v, %v): %v, %v, %v; want %v", a, states, w, found, err, want)
	}
}

// wantLive wants these states live, of a width as many as there are, and Empty and Witness to say the same of Init.
func wantLive(t *testing.T, a api.Buchi, want []int) {
	t.Helper()
	live, err := empty.Live(a)
	if err != api.OK || live == nil || !live.Same(bits.Of(a.States, want...)) {
		t.Fatalf("Live(%+v): %v, %v; want %v", a, live, err, want)
	}
	some := slices.ContainsFunc(a.Init, func(q int) bool { return slices.Contains(want, q) })
	if none, err := empty.Empty(a); none == some || err != api.OK {
		t.Fatalf("Empty(%+v): %v, %v", a, none, err)
	}
	if _, found, err := empty.Witness(a); found != some || err != api.OK {
		t.Fatalf("Witness(%+v): %v, %v", a, found, err)
	}
}

func word(stem []uint16, loop ...uint16) api.Word { return api.Word{Stem: stem, Loop: loop} }

// The chapter's examples.
func TestExamples(t *testing.T) {
	a := example(1)
	wantLive(t, a, []int{0, 1, 2})
	w, found, err := empty.Witness(a)
	if !sameWord(w, word([]uint16{1}, 0, 1)) || !found || err != api.OK {
		t.Errorf("Witness: %v, %v, %v", w, found, err)
	}
	wantFrom(t, a, []int{2}, word([]uint16{1}, 0, 1))
	wantFrom(t, a, []int{1}, word(nil, 0, 1))
	wantFrom(t, a, nil, api.Word{})
	if w, found, err := empty.From(a, 3); found || err != api.ErrArg || !sameWord(w, api.Word{}) {
		t.Errorf("From(3): %v, %v, %v", w, found, err)
	}
	wantLive(t, example(2), []int{0, 1, 2})
	wantFrom(t, example(2), []int{0}, word([]uint16{1, 0}, 1, 0))
	wantLive(t, example(), nil)
	wantFrom(t, example(), []int{0, 1, 2}, api.Word{})
}

// wrong are automata that buchi.Check refuses, each by one fault.
func wrong() map[string]api.Buchi {
	list := map[string]api.Buchi{}
	spoil := func(who string, change func(*api.Buchi)) {
		a := example(1)
		change(&a)
		list[who] = a
	}
	spoil("nine names", func(a *api.Buchi) { a.Props = append(names8(), "i") })
	spoil("a name twice", func(a *api.Buchi) { a.Props = []string{"p", "p"} })
	spoil("a name without bytes", func(a *api.Buchi) { a.Props = []string{""} })
	spoil("a name with a quote", func(a *api.Buchi) { a.Props = []string{`"`} })
	spoil("states below nought", func(a *api.Buchi) { a.States = -1 })
	spoil("fewer states than are named", func(a *api.Buchi) { a.States = 2 })
	spoil("no states", func(a *api.Buchi) { a.States = 0 })
	spoil("too many states", func(a *api.Buchi) { a.States = 65537 })
	spoil("far too many states", func(a *api.Buchi) { a.States = math.MaxInt })
	spoil("Init no state", func(a *api.Buchi) { a.Init = []int{3} })
	spoil("Init below nought", func(a *api.Buchi) { a.Init = []int{-1} })
	spoil("Init not rising", func(a *api.Buchi) { a.Init = []int{1, 0} })
	spoil("Init twice", func(a *api.Buchi) { a.Init = []int{0, 0} })
	spoil("Final no state", func(a *api.Buchi) { a.Final = []int{3} })
	spoil("Final not rising", func(a *api.Buchi) { a.Final = []int{1, 0} })
	spoil("an edge from no state", func(a *api.Buchi) { a.Edges[3].From = 3 })
	spoil("an edge to no state", func(a *api.Buchi) { a.Edges[3].To = 3 })
	spoil("an edge to below nought", func(a *api.Buchi) { a.Edges[0].To = -1 })
	spoil("a Must of no name", func(a *api.Buchi) { a.Edges[3].Must = 2 })
	spoil("a Not of no name", func(a *api.Buchi) { a.Edges[3].Not = 32768 })
	spoil("a bit in both", func(a *api.Buchi) { a.Edges[3].Not = 1 })
	spoil("edges not rising", func(a *api.Buchi) { a.Edges[0], a.Edges[1] = a.Edges[1], a.Edges[0] })
	spoil("an edge twice", func(a *api.Buchi) { a.Edges[1] = a.Edges[0] })
	return list
}

// All calls: nothing and ErrEmptyForm, whatever else is wrong.
func TestWrong(t *testing.T) {
	for who, a := range wrong() {
		if buchi.Check(a) == api.OK {
			t.Fatalf("%s: it is right", who)
		}
		if live, err := empty.Live(a); live != nil || err != api.ErrEmptyForm {
			t.Errorf("%s: Live: %v, %v", who, live, err)
		}
		if none, err := empty.Empty(a); none || err != api.ErrEmptyForm {
			t.Errorf("%s: Empty: %v, %v", who, none, err)
		}
		if w, found, err := empty.Witness(a); found || err != api.ErrEmptyForm || !sameWord(w, api.Word{}) {
			t.Errorf("%s: Witness: %v, %v, %v", who, w, found, err)
		}
		for _, states := range [][]int{nil, {0}, {1, 2}, {-1}, {0, 65536}, {math.MinInt}} {
			if w, found, err := empty.From(a, states...); found || err != api.ErrEmptyForm || !sameWord(w, api.Word{}) {
				t.Errorf("%s: From(%v): %v, %v, %v", who, states, w, found, err)
			}
		}
	}
}

// From of what is no state, wherever it stands, and whether anything is accepted or not.
func TestNoState(t *testing.T) {
	for _, a := range []api.Buchi{example(1), example(), {States: 3}, {}} {
		for _, q := range []int{-1, a.States, a.States + 1, 65535, 65536, math.MaxInt, math.MinInt, 1 << 32, -1 << 32} {
			lists := [][]int{{q}, {q, q}}
			if a.States > 0 {
				lists = append(lists, []int{0, q}, []int{q, 0}, []int{0, 1, q, 2})
			}
			for _, states := range lists {
				if w, found, err := empty.From(a, states...); found || err != api.ErrArg || !sameWord(w, api.Word{}) {
					t.Errorf("From(%+v, %v): %v, %v, %v", a, states, w, found, err)
				}
			}
		}
	}
}

// Where there is little: no states, no edges, no names, no beginnings, no final states.
func TestLittle(t *testing.T) {
	wantLive(t, api.Buchi{}, nil)
	wantFrom(t, api.Buchi{}, nil, api.Word{})
	one := api.Buchi{States: 1, Init: []int{0}, Final: []int{0}}
	wantLive(t, one, nil)
	wantFrom(t, one, []int{0}, api.Word{})
	one.Edges = []api.Edge{{}}
	wantLive(t, one, []int{0})
	wantFrom(t, one, []int{0}, word(nil, 0))
	wantFrom(t, one, nil, api.Word{})
	one.Init = nil
	wantLive(t, one, []int{0}) // and it is empty: nothing is accepted from one of Init
	wantFrom(t, one, []int{0}, word(nil, 0))
	one.Init, one.Final = []int{0}, nil
	wantLive(t, one, nil)
	wantFrom(t, one, []int{0}, api.Word{})
}

// Live are states that reach a final state with a ring: not those that reach a final one without, or a ring without a final one.
func TestLive(t *testing.T) {
	edges := []api.Edge{{From: 0, To: 1}, {From: 1, To: 2}, {From: 2, To: 2}, {From: 3, To: 4}, {From: 4, To: 3}, {From: 5, To: 3}, {From: 5, To: 0}}
	for _, c := range []struct{ final, want []int }{
		{[]int{0}, nil}, {[]int{1}, nil}, {[]int{0, 1, 5}, nil}, {[]int{2}, []int{0, 1, 2, 5}}, {[]int{3}, []int{3, 4, 5}}, {[]int{4}, []int{3, 4, 5}}, {[]int{5}, nil}, {[]int{2, 4}, []int{0, 1, 2, 3, 4, 5}}, {nil, nil},
	} {
		for _, init := range [][]int{nil, {0}, {1, 2}, {3}, {4, 5}, {5}, below(6)} {
			a := automaton(0, 6, c.final, edges...)
			a.Init = init
			wantLive(t, a, c.want)
		}
	}
}

// Not all states have a number within one word of bits.
func TestLiveWide(t *testing.T) {
	for _, n := range []int{63, 64, 65, 127, 128, 129, 1000} {
		a := api.Buchi{States: n, Init: []int{0}, Final: []int{n - 1}}
		for q := range n - 1 {
			if q != n/2 {
				a.Edges = append(a.Edges, api.Edge{From: q, To: q + 1})
			}
		}
		a.Edges = append(a.Edges, api.Edge{From: n - 1, To: n - 1})
		wantLive(t, a, below(n)[n/2+1:])
		wantFrom(t, a, []int{0, n/2 + 1}, word(make([]uint16, n-1-(n/2+1)), 0))
	}
}
