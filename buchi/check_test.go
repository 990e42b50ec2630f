package buchi_test

import (
	"math"
	"slices"
	"strings"
	"testing"

	"augur/api"
	"augur/bits"
	"augur/buchi"
)

// bothChecks wants of an automaton that answer, with final states and with the same as one set.
func bothChecks(t *testing.T, who string, a api.Buchi, want api.Errno) {
	t.Helper()
	if got := buchi.Check(a); got != want {
		t.Errorf("%s: Check: %v, want %v", who, got, want)
	}
	if got := buchi.CheckGeneral(oneSet(a)); got != want {
		t.Errorf("%s: CheckGeneral: %v, want %v", who, got, want)
	}
	if want == api.ErrBuchiForm {
		refused(t, who, a)
	}
}

// refused wants all calls to refuse an automaton, and nothing beside the error.
func refused(t *testing.T, who string, a api.Buchi) {
	t.Helper()
	none := func(call string, got api.Buchi, err api.Errno) {
		t.Helper()
		if err != api.ErrBuchiForm || !isZero(got) {
			t.Errorf("%s: %s: %+v, %v", who, call, got, err)
		}
	}
	right := api.Buchi{Props: a.Props}
	got, err := buchi.Degen(oneSet(a))
	none("Degen", got, err)
	got, err = buchi.Trim(a)
	none("Trim", got, err)
	got, err = buchi.Both(a, right)
	none("Both", got, err)
	got, err = buchi.Both(right, a)
	none("Both, the other", got, err)
	got, err = buchi.Both(a, a)
	none("Both of it", got, err)
	for _, w := range []api.Word{loop(0), {}, loop(65535)} { // a wrong automaton comes ahead of a wrong word
		if is, err := buchi.Accepts(a, w); is || err != api.ErrBuchiForm {
			t.Errorf("%s: Accepts: %v, %v", who, is, err)
		}
		if is, err := buchi.AcceptsGeneral(oneSet(a), w); is || err != api.ErrBuchiForm {
			t.Errorf("%s: AcceptsGeneral: %v, %v", who, is, err)
		}
	}
	if from := bits.New(a.States); from != nil && buchi.Step(a, from, 0) != nil {
		t.Errorf("%s: Step", who)
	}
}

func TestRight(t *testing.T) {
	for _, c := range []struct {
		who string
		a   api.Buchi
	}{
		{"nothing", api.Buchi{}},
		{"lists that are empty", api.Buchi{Props: []string{}, Init: []int{}, Edges: []api.Edge{}, Final: []int{}}},
		{"names without states", api.Buchi{Props: names8()}},
		{"the longest name, and the least and the greatest byte", api.Buchi{Props: []string{strings.Repeat("x", 32), " ", "~", "!", "#", "[", "]"}}},
		{"all states", api.Buchi{States: 65536, Init: below(65536), Final: below(65536)}},
		{"the last state", api.Buchi{States: 65536, Init: []int{65535}, Final: []int{65535}, Edges: []api.Edge{{From: 65535, To: 65535}}}},
		{"states that nothing leads to", api.Buchi{States: 5}},
		{"final states that nothing leads to", api.Buchi{States: 5, Final: []int{0, 2, 4}}},
		{"edges", api.Buchi{Props: ab(), States: 2, Edges: []api.Edge{edge(0, 0, 0, 0), edge(0, 0, 0, 1), edge(0, 0, 0, 3), edge(0, 0, 1, 0), edge(0, 0, 1, 2), edge(0, 0, 2, 1), edge(0, 0, 3, 0), edge(0, 1, 0, 0), edge(1, 0, 0, 0), edge(1, 1, 3, 0)}}},
		{"all bits", api.Buchi{Props: names8(), States: 1, Edges: []api.Edge{{Not: 255}, {Must: 128, Not: 127}, {Must: 255}}}},
	} {
		bothChecks(t, c.who, c.a, api.OK)
	}
	d := draw(1)
	for range 2000 {
		g := d.general(6, d.below(4), 4)
		if err := buchi.CheckGeneral(g); err != api.OK {
			t.Fatalf("%+v: %v", g, err)
		}
	}
}

func TestNoNames(t *testing.T) {
	for _, names := range [][]string{
		{""}, {"a", ""}, {"a", "a"}, {"a", "b", "a"}, {"a", "b", "b"}, {strings.Repeat("x", 33)}, {strings.Repeat("x", 1000)}, {`"`}, {`a"b`}, {`\`}, {`a\`}, {"\x1f"}, {"\x7f"}, {"a\n"}, {"\x00"}, {"é"}, {"a\x80"}, {"\xff"},
		append(names8(), "i"), append(names8(), "a"), slices.Repeat([]string{"a"}, 1000000),
	} {
		bothChecks(t, "names", api.Buchi{Props: names}, api.ErrBuchiForm)
		bothChecks(t, "names, and a state", api.Buchi{Props: names, States: 1, Init: []int{0}, Edges: []api.Edge{{}}, Final: []int{0}}, api.ErrBuchiForm)
	}
}

func TestNoStates(t *testing.T) {
	for _, states := range []int{-1, 65537, math.MinInt, math.MaxInt, 1 << 32, 1<<32 + 1} {
		bothChecks(t, "states", api.Buchi{States: states}, api.ErrBuchiForm)
	}
	for _, list := range [][]int{{-1}, {3}, {0, 3}, {-1, 0}, {1, 0}, {0, 2, 1}, {0, 0}, {1, 1}, {0, 1, 1}, {2, 2}, {0, 1, 2, 3}, {math.MaxInt}, {math.MinInt}, {1 << 32}, {0, 1, 0}} {
		bothChecks(t, "Init", api.Buchi{States: 3, Init: list}, api.ErrBuchiForm)
		bothChecks(t, "Final", api.Buchi{States: 3, Final: list}, api.ErrBuchiForm)
		g := api.General{States: 3, Sets: [][]int{{0, 1, 2}, nil, list}}
		if err := buchi.CheckGeneral(g); err != api.ErrBuchiForm {
			t.Errorf("the last set is %v: %v", list, err)
		}
		g.Sets = [][]int{list, {0}, {1, 2}}
		if err := buchi.CheckGeneral(g); err != api.ErrBuchiForm {
			t.Errorf("the first set is %v: %v", list, err)
		}
		if got, err := buchi.Degen(g); err != api.ErrBuchiForm || !isZero(got) {
			t.Errorf("Degen, the first set is %v: %v", list, err)
		}
		if is, err := buchi.AcceptsGeneral(g, loop(0)); is || err != api.ErrBuchiForm {
			t.Errorf("AcceptsGeneral, the first set is %v: %v", list, err)
		}
	}
	bothChecks(t, "Init without states", api.Buchi{Init: []int{0}}, api.ErrBuchiForm)
	bothChecks(t, "Final without states", api.Buchi{Final: []int{0}}, api.ErrBuchiForm)
	bothChecks(t, "an edge without states", api.Buchi{Edges: []api.Edge{{}}}, api.ErrBuchiForm)
}

func TestNoEdges(t *testing.T) {
	for _, edges := range [][]api.Edge{
		{{From: -1}}, {{From: 3}}, {{To: -1}}, {{To: 3}}, {{From: math.MaxInt}}, {{To: math.MinInt}},
		{{Must: 4}}, {{Not: 4}}, {{Must: 65535}}, {{Not: 65535}}, {{Must: 32768}}, {{Not: 256}}, {{Must: 1, Not: 1}}, {{Must: 3, Not: 2}}, {{Must: 1, Not: 3}}, {{Must: 3, Not: 3}},
		{{}, {}}, {{From: 1}, {From: 0}}, {{From: 1, To: 1}, {From: 1, To: 0}}, {{Must: 1}, {}}, {{Must: 2}, {Must: 1}}, {{Not: 1}, {}}, {{Not: 2}, {Not: 1}},
		{{Must: 1}, {Not: 1}}, {{To: 1}, {Must: 1}}, {{From: 1}, {To: 2}}, {{Must: 1}, {Must: 1}}, {edge(0, 1, 1, 2), edge(0, 1, 1, 2)}, {edge(0, 0, 0, 0), edge(0, 1, 0, 0), edge(0, 0, 1, 0)}, {edge(0, 0, 0, 0), edge(0, 1, 0, 0), edge(0, 1, 0, 4)}, {edge(2, 2, 0, 0), edge(2, 2, 0, 0)},
	} {
		bothChecks(t, "edges", api.Buchi{Props: ab(), States: 3, Init: []int{0}, Edges: edges, Final: []int{0}}, api.ErrBuchiForm)
	}
	bothChecks(t, "Must without names", api.Buchi{States: 1, Edges: []api.Edge{{Must: 1}}}, api.ErrBuchiForm)
	bothChecks(t, "Not without names", api.Buchi{States: 1, Edges: []api.Edge{{Not: 1}}}, api.ErrBuchiForm)
	bothChecks(t, "Must over eight", api.Buchi{Props: names8(), States: 1, Edges: []api.Edge{{Must: 256}}}, api.ErrBuchiForm)
}

// Of right automata: what is broken in them, anywhere, is found.
func TestBroken(t *testing.T) {
	d := draw(2)
	breaks := []func(a *api.Buchi, at int) bool{
		func(a *api.Buchi, at int) bool { a.Init = append(slices.Clone(a.Init), a.States); return true },
		func(a *api.Buchi, at int) bool { a.Final = append(slices.Clone(a.Final), a.States); return true },
		func(a *api.Buchi, at int) bool {
			if len(a.Final) == 0 {
				return false
			}
			a.Final = slices.Insert(slices.Clone(a.Final), at%len(a.Final), a.Final[at%len(a.Final)])
			return true
		},
		func(a *api.Buchi, at int) bool {
			if len(a.Edges) == 0 {
				return false
			}
			a.Edges = slices.Insert(slices.Clone(a.Edges), at%len(a.Edges), a.Edges[at%len(a.Edges)])
			return true
		},
		func(a *api.Buchi, at int) bool {
			if len(a.Edges) < 2 {
				return false
			}
			a.Edges = slices.Clone(a.Edges)
			i := at % (len(a.Edges) - 1)
			a.Edges[i], a.Edges[i+1] = a.Edges[i+1], a.Edges[i]
			return true
		},
		func(a *api.Buchi, at int) bool {
			if len(a.Edges) == 0 {
				return false
			}
			a.Edges = slices.Clone(a.Edges)
			a.Edges[at%len(a.Edges)].Not |= 1 << len(a.Props)
			return true
		},
	}
	for range 500 {
		a := d.automaton(5, d.below(3))
		for _, spoil := range breaks {
			wrong := a
			if spoil(&wrong, d.below(100)) {
				bothChecks(t, "broken", wrong, api.ErrBuchiForm)
			}
		}
	}
}

// Both refuses automata over unlike lists of names.
func TestOtherNames(t *testing.T) {
	over := func(names ...string) api.Buchi {
		return api.Buchi{Props: names, States: 1, Init: []int{0}, Edges: []api.Edge{{}}, Final: []int{0}}
	}
	lists := [][]string{nil, {"a"}, {"b"}, {"A"}, {"a "}, {"a", "b"}, {"b", "a"}, {"a", "b", "c"}, names8()}
	for i, x := range lists {
		for j, y := range lists {
			got, err := buchi.Both(over(x...), over(y...))
			if i == j {
				if err != api.OK || !slices.Equal(got.Props, x) || got.States != 2 {
					t.Errorf("%q: %+v, %v", x, got, err)
				}
			} else if err != api.ErrBuchiForm || !isZero(got) {
				t.Errorf("%q, %q: %+v, %v", x, y, got, err)
			}
		}
	}
}
