package buchi_test

import (
	"cmp"
	"iter"
	"slices"
	"strings"
	"testing"

	"augur/api"
	"augur/bits"
	"augur/buchi"
)

// The calls as the chapter lists them.
var (
	_ func(api.Buchi) api.Errno                         = buchi.Check
	_ func(api.General) api.Errno                       = buchi.CheckGeneral
	_ func(api.General) (api.Buchi, api.Errno)          = buchi.Degen
	_ func(api.Buchi, *bits.Set, uint16) *bits.Set      = buchi.Step
	_ func(api.Buchi, api.Word) (bool, api.Errno)       = buchi.Accepts
	_ func(api.General, api.Word) (bool, api.Errno)     = buchi.AcceptsGeneral
	_ func(uint16, uint16, int) iter.Seq[uint16]        = buchi.Letters
	_ func(api.Buchi) (api.Buchi, api.Errno)            = buchi.Trim
	_ func(api.Buchi, api.Buchi) (api.Buchi, api.Errno) = buchi.Both
)

func TestNumbers(t *testing.T) {
	if api.OK != 0 || api.ErrBuchiForm != 100 || api.ErrBuchiWord != 101 || api.ErrMuch != 2 {
		t.Errorf("%d, %d, %d, %d", api.OK, api.ErrBuchiForm, api.ErrBuchiWord, api.ErrMuch)
	}
}

func ab() []string { return []string{"a", "b"} }

func names8() []string { return strings.Split("a b c d e f g h", " ") }

// below are the numbers from 0 on.
func below(n int) []int {
	list := make([]int, n)
	for i := range list {
		list[i] = i
	}
	return list
}

func edge(from, to int, must, not uint16) api.Edge {
	return api.Edge{From: from, To: to, Must: must, Not: not}
}

func loop(letters ...uint16) api.Word { return api.Word{Loop: letters} }

// draw are numbers that look as if nobody knew them, always the same.
type draw uint32

func (d *draw) below(n int) int {
	*d = *d*1664525 + 1013904223
	return int(*d>>8) % n
}

// some are some of the numbers below n: of five that many.
func (d *draw) some(n, ofFive int) []int {
	var list []int
	for i := range n {
		if d.below(5) < ofFive {
			list = append(list, i)
		}
	}
	return list
}

// label is a Must and a Not over so many names.
func (d *draw) label(props int) (uint16, uint16) {
	var must, not uint16
	for i := range props {
		switch d.below(4) {
		case 0:
			must |= 1 << i
		case 1:
			not |= 1 << i
		}
	}
	return must, not
}

// general is an automaton of at most so many states, over so many of the names, with at most so many sets.
func (d *draw) general(states, props, sets int) api.General {
	g := api.General{Props: names8()[:props], States: 1 + d.below(states)}
	g.Init = d.some(g.States, 2)
	for range d.below(3 * g.States) {
		must, not := d.label(props)
		g.Edges = append(g.Edges, api.Edge{From: d.below(g.States), To: d.below(g.States), Must: must, Not: not})
	}
	slices.SortFunc(g.Edges, rising)
	g.Edges = slices.Compact(g.Edges)
	for range d.below(sets + 1) {
		g.Sets = append(g.Sets, d.some(g.States, 2))
	}
	return g
}

// automaton is one with final states.
func (d *draw) automaton(states, props int) api.Buchi {
	g := d.general(states, props, 0)
	return api.Buchi{Props: g.Props, States: g.States, Init: g.Init, Edges: g.Edges, Final: d.some(g.States, 2)}
}

// word is one of letters over so many names.
func (d *draw) word(props, stem, length int) api.Word {
	var w api.Word
	for range d.below(stem + 1) {
		w.Stem = append(w.Stem, uint16(d.below(1<<props)))
	}
	for range 1 + d.below(length) {
		w.Loop = append(w.Loop, uint16(d.below(1<<props)))
	}
	return w
}

func rising(a, b api.Edge) int {
	return cmp.Or(a.From-b.From, a.To-b.To, int(a.Must)-int(b.Must), int(a.Not)-int(b.Not))
}

// oneSet is a as an automaton with sets.
func oneSet(a api.Buchi) api.General {
	return api.General{Props: a.Props, States: a.States, Init: a.Init, Edges: a.Edges, Sets: [][]int{a.Final}}
}

func same(a, b api.Buchi) bool {
	return slices.Equal(a.Props, b.Props) && a.States == b.States && slices.Equal(a.Init, b.Init) && slices.Equal(a.Edges, b.Edges) && slices.Equal(a.Final, b.Final)
}

func sameGeneral(a, b api.General) bool {
	return slices.Equal(a.Props, b.Props) && a.States == b.States && slices.Equal(a.Init, b.Init) && slices.Equal(a.Edges, b.Edges) && slices.EqualFunc(a.Sets, b.Sets, slices.Equal[[]int])
}

// isZero wants what stands beside an error: nothing.
func isZero(a api.Buchi) bool { return same(a, api.Buchi{}) }

// made wants that automaton, and that it is right.
func made(t *testing.T, who string, got api.Buchi, err api.Errno, want api.Buchi) {
	t.Helper()
	if err != api.OK || !same(got, want) {
		t.Fatalf("%s: %+v, %v; want %+v", who, got, err, want)
	}
	if err := buchi.Check(got); err != api.OK {
		t.Fatalf("%s is not right: %+v", who, got)
	}
}

// always is the chapter's first example.
func always() api.Buchi {
	return api.Buchi{Props: ab(), States: 1, Init: []int{0}, Edges: []api.Edge{{Must: 1}}, Final: []int{0}}
}

// The chapter's first example.
func TestAlways(t *testing.T) {
	a := always()
	for _, c := range []struct {
		w    api.Word
		want bool
	}{
		{loop(1), true}, {loop(3), true}, {loop(1, 3, 3, 1), true}, {api.Word{Stem: []uint16{3, 1}, Loop: []uint16{1}}, true},
		{loop(0), false}, {loop(2), false}, {loop(1, 1, 2), false}, {api.Word{Stem: []uint16{1, 2}, Loop: []uint16{1}}, false}, {api.Word{Stem: []uint16{1, 3}, Loop: []uint16{0}}, false},
	} {
		if is, err := buchi.Accepts(a, c.w); is != c.want || err != api.OK {
			t.Errorf("%v: %v, %v", c.w, is, err)
		}
		none := a
		none.Final = nil
		if is, err := buchi.Accepts(none, c.w); is || err != api.OK {
			t.Errorf("without final states %v: %v, %v", c.w, is, err)
		}
	}
}

// The chapter's second example.
func TestTwoSets(t *testing.T) {
	g := api.General{Props: ab(), States: 2, Init: []int{0}, Edges: []api.Edge{{From: 0, To: 0}, {From: 0, To: 1}, {From: 1, To: 0}, {From: 1, To: 1}}, Sets: [][]int{{0}, {1}}}
	got, err := buchi.Degen(g)
	made(t, "Degen", got, err, api.Buchi{Props: ab(), States: 4, Init: []int{0}, Final: []int{2},
		Edges: []api.Edge{{From: 0, To: 1}, {From: 0, To: 2}, {From: 1, To: 1}, {From: 1, To: 2}, {From: 2, To: 0}, {From: 2, To: 3}, {From: 3, To: 0}, {From: 3, To: 3}}})
}

// The chapter's third example, and its edges.
func TestLetters(t *testing.T) {
	for _, c := range []struct {
		must, not uint16
		props     int
		want      []uint16
	}{
		{1, 0, 2, []uint16{1, 3}}, {0, 0, 0, []uint16{0}}, {1, 1, 2, nil},
		{0, 0, 1, []uint16{0, 1}}, {0, 1, 1, []uint16{0}}, {1, 0, 1, []uint16{1}}, {0, 0, 2, []uint16{0, 1, 2, 3}}, {2, 1, 2, []uint16{2}}, {0, 2, 3, []uint16{0, 1, 4, 5}}, {5, 2, 3, []uint16{5}},
		// Bits that are no names': no letter has them.
		{4, 0, 2, nil}, {1, 0, 0, nil}, {32768, 0, 8, nil}, {256, 0, 8, nil}, {0, 4, 2, []uint16{0, 1, 2, 3}}, {0, 65535, 8, []uint16{0}}, {65535, 0, 8, nil}, {0, 65280, 1, []uint16{0, 1}}, {65535, 65535, 8, nil}, {4, 4, 2, nil},
		{255, 0, 8, []uint16{255}}, {127, 128, 8, []uint16{127}}, {254, 0, 8, []uint16{254, 255}},
		{0, 0, -1, nil}, {0, 0, 9, nil}, {0, 0, 16, nil}, {0, 0, 64, nil}, {0, 0, -9223372036854775808, nil}, {0, 0, 9223372036854775807, nil},
	} {
		if got := slices.Collect(buchi.Letters(c.must, c.not, c.props)); !slices.Equal(got, c.want) {
			t.Errorf("%d, %d, %d: %v, want %v", c.must, c.not, c.props, got, c.want)
		}
	}
	if got := slices.Collect(buchi.Letters(0, 0, 8)); len(got) != 256 || got[0] != 0 || got[255] != 255 || !slices.IsSorted(got) {
		t.Errorf("all letters: %v", got)
	}
}

// Of each Must, Not and count of names: by all letters.
func TestLettersByAll(t *testing.T) {
	for props := range 4 {
		for must := range uint16(16) {
			for not := range uint16(16) {
				var want []uint16
				for letter := range uint16(1) << props {
					if letter|must == letter && letter&^not == letter {
						want = append(want, letter)
					}
				}
				if got := slices.Collect(buchi.Letters(must, not, props)); !slices.Equal(got, want) {
					t.Errorf("%d, %d, %d: %v, want %v", must, not, props, got, want)
				}
			}
		}
	}
}

// Left early, ranged over again, and within itself.
func TestLettersAgain(t *testing.T) {
	letters := buchi.Letters(1, 4, 4)
	want := []uint16{1, 3, 9, 11}
	for stop := range len(want) + 1 {
		var got []uint16
		for letter := range letters {
			if len(got) == stop {
				break
			}
			got = append(got, letter)
		}
		if !slices.Equal(got, want[:stop]) {
			t.Errorf("left behind %d: %v", stop, got)
		}
	}
	var outer []uint16
	for letter := range letters {
		outer = append(outer, letter)
		if inner := slices.Collect(letters); !slices.Equal(inner, want) {
			t.Errorf("within itself: %v", inner)
		}
		for range letters {
			break
		}
	}
	if !slices.Equal(outer, want) {
		t.Errorf("around itself: %v", outer)
	}
	if again := slices.Collect(letters); !slices.Equal(again, want) {
		t.Errorf("again: %v", again)
	}
}

// stepByHand are the states behind those of a set.
func stepByHand(a api.Buchi, from []int, letter uint16) []int {
	var list []int
	for _, e := range a.Edges {
		if slices.Contains(from, e.From) && letter&e.Must == e.Must && letter&e.Not == 0 {
			list = append(list, e.To)
		}
	}
	slices.Sort(list)
	return slices.Compact(list)
}

func TestStep(t *testing.T) {
	a := api.Buchi{Props: ab(), States: 3, Edges: []api.Edge{{From: 0, To: 1, Must: 1}, {From: 0, To: 2, Not: 1}, {From: 1, To: 0}, {From: 1, To: 0, Must: 1}, {From: 1, To: 2, Must: 2, Not: 1}}}
	for _, c := range []struct {
		from   []int
		letter uint16
		want   []int
	}{
		{nil, 0, nil}, {[]int{0}, 0, []int{2}}, {[]int{0}, 1, []int{1}}, {[]int{0}, 2, []int{2}}, {[]int{0}, 3, []int{1}},
		{[]int{1}, 0, []int{0}}, {[]int{1}, 2, []int{0, 2}}, {[]int{1}, 3, []int{0}}, {[]int{2}, 0, nil}, {[]int{0, 1, 2}, 1, []int{0, 1}},
	} {
		from := bits.Of(3, c.from...)
		got := buchi.Step(a, from, c.letter)
		if got == nil || !got.Same(bits.Of(3, c.want...)) || !from.Same(bits.Of(3, c.from...)) {
			t.Errorf("%v by %d", c.from, c.letter)
		}
	}
	d := draw(4)
	for range 2000 {
		props := d.below(4)
		a := d.automaton(7, props)
		from := d.some(a.States, 2)
		letter := uint16(d.below(1 << props))
		want := stepByHand(a, from, letter)
		if got := buchi.Step(a, bits.Of(a.States, from...), letter); got == nil || !got.Same(bits.Of(a.States, want...)) {
			t.Fatalf("%+v: %v by %d", a, from, letter)
		}
	}
}

// Where Step is nil, and where it is a set of nothing.
func TestStepNil(t *testing.T) {
	a := api.Buchi{Props: ab(), States: 3, Edges: []api.Edge{{From: 0, To: 1, Must: 1}}}
	wrong := a
	wrong.Init = []int{3}
	for _, c := range []struct {
		who    string
		a      api.Buchi
		from   *bits.Set
		letter uint16
	}{
		{"no set", a, nil, 1}, {"no set of no states", api.Buchi{}, nil, 0},
		{"another width, greater", a, bits.Of(4, 0), 1}, {"another width, less", a, bits.Of(2, 0), 1}, {"no width", a, bits.New(0), 1}, {"the greatest width", a, bits.Of(65536, 0), 1},
		{"letter 4", a, bits.Of(3, 0), 4}, {"letter 5", a, bits.Of(3, 0), 5}, {"the greatest letter", a, bits.Of(3, 0), 65535}, {"letter of the ninth name", a, bits.Of(3, 0), 256},
		{"not right", wrong, bits.Of(3, 0), 1}, {"letter 1 over no names", api.Buchi{States: 1}, bits.New(1), 1}, {"no states, another width", api.Buchi{}, bits.New(1), 0},
	} {
		if got := buchi.Step(c.a, c.from, c.letter); got != nil {
			t.Errorf("%s: a set of width %d", c.who, got.Width())
		}
	}
	if got := buchi.Step(api.Buchi{}, bits.New(0), 0); got == nil || got.Width() != 0 {
		t.Error("no states")
	}
	eight := api.Buchi{Props: names8(), States: 1, Edges: []api.Edge{{Must: 255}}}
	if got := buchi.Step(eight, bits.Of(1, 0), 255); got == nil || !got.Has(0) {
		t.Error("eight names")
	}
	if got := buchi.Step(eight, bits.Of(1, 0), 256); got != nil {
		t.Error("a letter of a ninth name")
	}
	for _, who := range []func() *bits.Set{
		func() *bits.Set { return buchi.Step(a, bits.New(3), 1) },
		func() *bits.Set { return buchi.Step(a, bits.Of(3, 1, 2), 1) },
		func() *bits.Set { return buchi.Step(a, bits.Of(3, 0), 2) },
	} {
		if got := who(); got == nil || got.Width() != 3 || got.Len() != 0 {
			t.Error("not a set of nothing")
		}
	}
}
