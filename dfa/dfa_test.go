package dfa_test

import (
	"cmp"
	"math"
	"slices"
	"strings"
	"testing"

	"augur/api"
	"augur/bits"
	"augur/dfa"
)

// The calls as the chapter lists them.
var (
	_ func(api.DFA) api.Errno                              = dfa.Check
	_ func(api.Buchi, *bits.Set, int) (api.DFA, api.Errno) = dfa.Build
	_ func(api.DFA, ...uint16) (int, api.Errno)            = dfa.Run
	_ func(api.DFA, ...uint16) (bool, api.Errno)           = dfa.Has
)

func TestNumbers(t *testing.T) {
	if api.OK != 0 || api.ErrArg != 1 || api.ErrDFAForm != 130 || api.ErrLimitStates != 131 {
		t.Errorf("%d, %d, %d, %d", api.OK, api.ErrArg, api.ErrDFAForm, api.ErrLimitStates)
	}
}

func names8() []string { return strings.Split("a b c d e f g h", " ") }

// below are the numbers from 0 on.
func below(n int) []int {
	list := make([]int, n)
	for i := range list {
		list[i] = i
	}
	return list
}

// full has all numbers below its width.
func full(width int) *bits.Set { return bits.Of(width, below(width)...) }

func rising(a, b api.Edge) int {
	return cmp.Or(a.From-b.From, a.To-b.To, int(a.Must)-int(b.Must), int(a.Not)-int(b.Not))
}

// automaton is one over so many names, with those edges in their order.
func automaton(props, states int, init []int, edges ...api.Edge) api.Buchi {
	slices.SortFunc(edges, rising)
	return api.Buchi{Props: names8()[:props], States: states, Init: init, Edges: slices.Compact(edges)}
}

// draw are numbers that look as if nobody knew them, always the same.
type draw uint32

func (d *draw) below(n int) int {
	*d = *d*1664525 + 1013904223
	return int(*d>>8) % n
}

// some are some of the numbers below n: of five that many.
func (d *draw) some(n, ofFive int) []int {
	var list []int
	for i := range n {
		if d.below(5) < ofFive {
			list = append(list, i)
		}
	}
	return list
}

// edge is one between states below n, over so many names.
func (d *draw) edge(n, props int) api.Edge {
	e := api.Edge{From: d.below(n), To: d.below(n)}
	for i := range props {
		switch d.below(4) {
		case 0:
			e.Must |= 1 << i
		case 1:
			e.Not |= 1 << i
		}
	}
	return e
}

// automaton has 1 to so many states, over so many names.
func (d *draw) automaton(states, props int) api.Buchi {
	n := 1 + d.below(states)
	var edges []api.Edge
	for range d.below(3*n + 1) {
		edges = append(edges, d.edge(n, props))
	}
	a := automaton(props, n, d.some(n, 2), edges...)
	a.Final = d.some(n, 2)
	return a
}

// row has so many letters.
func (d *draw) row(props, length int) []uint16 {
	u := make([]uint16, length)
	for i := range u {
		u[i] = uint16(d.below(1 << props))
	}
	return u
}

// dfa is one of 1 to so many states, not all of which need be reached.
func (d *draw) dfa(states, props int) api.DFA {
	n := 1 + d.below(states)
	x := api.DFA{Props: names8()[:props]}
	for range n {
		row := make([]int, 1<<props)
		for letter := range row {
			row[letter] = d.below(n)
		}
		x.Next = append(x.Next, row)
		x.Live = append(x.Live, d.below(2) == 0)
	}
	return x
}

func same(a, b api.DFA) bool {
	return slices.Equal(a.Props, b.Props) && slices.Equal(a.Live, b.Live) && slices.EqualFunc(a.Next, b.Next, slices.Equal)
}

func isZero(d api.DFA) bool { return len(d.Props) == 0 && len(d.Next) == 0 && len(d.Live) == 0 }

// wantBuild wants just that DFA, whatever greater limit there is; and with each smaller one that it is refused, and nothing beside that.
func wantBuild(t *testing.T, a api.Buchi, live *bits.Set, want api.DFA) {
	t.Helper()
	n := len(want.Next)
	for _, most := range []int{n, n + 1, math.MaxInt} {
		got, err := dfa.Build(a, live, most)
		if err != api.OK || !same(got, want) || dfa.Check(got) != api.OK {
			t.Fatalf("Build(%+v, %v, %d): %+v, %v; want %+v", a, slices.Collect(live.All()), most, got, err, want)
		}
	}
	for _, most := range []int{n - 1, n / 2, 0, -1, math.MinInt} {
		if got, err := dfa.Build(a, live, most); err != api.ErrLimitStates || !isZero(got) {
			t.Fatalf("Build(%+v, %v, %d): %+v, %v", a, slices.Collect(live.All()), most, got, err)
		}
	}
}

// wantRun wants that state behind u, and Has to say what Live says of it.
func wantRun(t *testing.T, d api.DFA, want int, u ...uint16) {
	t.Helper()
	if state, err := dfa.Run(d, u...); state != want || err != api.OK {
		t.Fatalf("Run(%+v, %v): %d, %v; want %d", d, u, state, err, want)
	}
	if has, err := dfa.Has(d, u...); has != d.Live[want] || err != api.OK {
		t.Fatalf("Has(%+v, %v): %v, %v", d, u, has, err)
	}
}

// wantRefused wants that error, and nothing beside it.
func wantRefused(t *testing.T, d api.DFA, want api.Errno, u ...uint16) {
	t.Helper()
	if state, err := dfa.Run(d, u...); state != 0 || err != want {
		t.Fatalf("Run(%+v, %v): %d, %v; want %v", d, u, state, err, want)
	}
	if has, err := dfa.Has(d, u...); has || err != want {
		t.Fatalf("Has(%+v, %v): %v, %v; want %v", d, u, has, err, want)
	}
}

// always is the automaton of the chapter's examples.
func always() api.Buchi {
	a := automaton(1, 1, []int{0}, api.Edge{Must: 1})
	a.Final = []int{0}
	return a
}

// The chapter's examples.
func TestExamples(t *testing.T) {
	d := api.DFA{Props: []string{"a"}, Next: [][]int{{1, 0}, {1, 1}}, Live: []bool{true, false}}
	wantBuild(t, always(), bits.Of(1, 0), d)
	wantRun(t, d, 0, 1, 1)
	wantRun(t, d, 1, 1, 0)
	wantBuild(t, always(), bits.New(1), api.DFA{Props: []string{"a"}, Next: [][]int{{0, 0}}, Live: []bool{false}})
}
