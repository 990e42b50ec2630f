package buchi_test

import (
	"slices"
	"sync"
	"testing"

	"augur/api"
	"augur/bits"
	"augur/buchi"
)

// memory notes which memory lists have, the room behind them with it. (By where each item is: pointers of one type are alike just if they point to one thing.)
type memory struct {
	t    *testing.T
	seen map[any]string
}

func note[T any](m memory, who string, list []T) {
	m.t.Helper()
	whole := list[:cap(list)]
	for i := range whole {
		at := any(&whole[i])
		if other, twice := m.seen[at]; twice {
			m.t.Fatalf("%s shares memory with %s", who, other)
		}
		m.seen[at] = who
	}
}

func (m memory) automaton(who string, a api.Buchi) {
	m.t.Helper()
	note(m, who+": Props", a.Props)
	note(m, who+": Init", a.Init)
	note(m, who+": Edges", a.Edges)
	note(m, who+": Final", a.Final)
}

func (m memory) general(who string, g api.General) {
	m.t.Helper()
	m.automaton(who, api.Buchi{Props: g.Props, Init: g.Init, Edges: g.Edges})
	note(m, who+": Sets", g.Sets)
	for _, set := range g.Sets {
		note(m, who+": a set", set)
	}
}

// spoil changes all of a list, and the room behind it.
func spoil[T any](list []T, with T) {
	whole := list[:cap(list)]
	for i := range whole {
		whole[i] = with
	}
}

func spoilAll(a api.Buchi) {
	spoil(a.Props, "spoilt")
	spoil(a.Init, 99)
	spoil(a.Edges, edge(9, 9, 9, 9))
	spoil(a.Final, 99)
}

// roomy is a list with something behind it.
func roomy[T any](list []T, room T) []T {
	return append(slices.Clip(slices.Clone(list)), room)[:len(list)]
}

// room is what stands behind a roomy list.
func room[T any](list []T) T { return list[:len(list)+1][len(list)] }

// lent is a copy with something behind each list; kept tells whether all of that is as it was.
func lent(g api.General) api.General {
	l := api.General{Props: roomy(g.Props, "room"), States: g.States, Init: roomy(g.Init, -7), Edges: roomy(g.Edges, edge(-7, 0, 0, 0)), Sets: roomy(g.Sets, []int{-7})}
	for i, set := range g.Sets {
		l.Sets[i] = roomy(set, -7)
	}
	return l
}

func kept(l, g api.General) bool {
	for _, set := range l.Sets {
		if room(set) != -7 {
			return false
		}
	}
	return sameGeneral(l, g) && room(l.Props) == "room" && room(l.Init) == -7 && room(l.Edges) == edge(-7, 0, 0, 0) && slices.Equal(room(l.Sets), []int{-7})
}

// asBuchi has the first set for its final states.
func asBuchi(g api.General) api.Buchi {
	return api.Buchi{Props: g.Props, States: g.States, Init: g.Init, Edges: g.Edges, Final: g.Sets[0]}
}

// spoilt changes all of a General.
func spoilt(g api.General) {
	for _, set := range g.Sets {
		spoil(set, 99)
	}
	spoilAll(api.Buchi{Props: g.Props, Init: g.Init, Edges: g.Edges})
	spoil(g.Sets, []int{99})
}

// R2: what is handed in stays as it is, with the room behind it; nothing of it is kept; what comes out is the asker's own.
func TestOwn(t *testing.T) {
	d := draw(9)
	for range 500 {
		props := d.below(3)
		g, h := d.general(5, props, 3), d.general(5, props, 3)
		g.Sets, h.Sets = append(g.Sets, d.some(g.States, 2)), append(h.Sets, d.some(h.States, 2))
		w := d.word(props, 4, 4)
		from := bits.Of(g.States, d.some(g.States, 3)...)
		m := memory{t, map[any]string{}}
		x, y := lent(g), lent(h)
		m.general("what is lent", x)
		m.general("what is lent too", y)
		var wants []api.Buchi
		for round := range 3 {
			var gots []api.Buchi
			add := func(who string, a api.Buchi, err api.Errno) {
				if err != api.OK {
					t.Fatalf("%s: %v", who, err)
				}
				m.automaton(who, a)
				gots = append(gots, a)
			}
			a, err := buchi.Degen(x)
			add("Degen", a, err)
			a, err = buchi.Trim(asBuchi(x))
			add("Trim", a, err)
			a, err = buchi.Both(asBuchi(x), asBuchi(y))
			add("Both", a, err)
			a, err = buchi.Both(asBuchi(x), asBuchi(x))
			add("Both of one", a, err)
			asked := api.Word{Stem: roomy(w.Stem, 7), Loop: roomy(w.Loop, 7)}
			buchi.Accepts(asBuchi(x), asked)
			buchi.AcceptsGeneral(x, asked)
			buchi.Check(asBuchi(x))
			buchi.CheckGeneral(x)
			if !slices.Equal(asked.Stem, w.Stem) || !slices.Equal(asked.Loop, w.Loop) || room(asked.Stem) != 7 || room(asked.Loop) != 7 {
				t.Fatalf("%v", asked)
			}
			set := from.Copy()
			buchi.Step(asBuchi(x), set, 0)
			if !set.Same(from) || !kept(x, g) || !kept(y, h) {
				t.Fatalf("%+v, %+v", x, y)
			}
			if round == 0 {
				for _, got := range gots {
					wants = append(wants, api.Buchi{Props: slices.Clone(got.Props), States: got.States, Init: slices.Clone(got.Init), Edges: slices.Clone(got.Edges), Final: slices.Clone(got.Final)})
				}
			}
			if !slices.EqualFunc(gots, wants, same) {
				t.Fatalf("%+v, and then %+v", wants, gots)
			}
			for _, got := range gots {
				spoilAll(got)
			}
		}
		keep, err := buchi.Degen(x)
		both, err2 := buchi.Both(asBuchi(x), asBuchi(y))
		spoilt(x)
		spoilt(y)
		if err != api.OK || err2 != api.OK || !same(keep, wants[0]) || !same(both, wants[2]) {
			t.Fatalf("%+v, %+v", keep, both)
		}
	}
}

// Step's set is a new one, and knows nothing of the one that was handed in.
func TestOwnSet(t *testing.T) {
	a := api.Buchi{States: 3, Edges: []api.Edge{{From: 0, To: 0}, {From: 1, To: 1}, {From: 2, To: 2}}}
	from := bits.Of(3, 0, 2)
	got := buchi.Step(a, from, 0)
	other := buchi.Step(a, from, 0)
	if got == from || got == other {
		t.Fatal("no new set")
	}
	got.Put(1)
	got.Cut(0)
	if !from.Same(bits.Of(3, 0, 2)) || !other.Same(bits.Of(3, 0, 2)) {
		t.Error("one set is changed by another")
	}
	from.Cut(2)
	if !other.Same(bits.Of(3, 0, 2)) || !got.Same(bits.Of(3, 1, 2)) {
		t.Error("a set is changed by the one that was handed in")
	}
}

// R6: a list that is nil and one that is empty are the same.
func TestNilAndEmpty(t *testing.T) {
	empty := api.Buchi{Props: []string{}, States: 2, Init: []int{}, Edges: []api.Edge{}, Final: []int{}}
	nils := api.Buchi{States: 2}
	for _, a := range []api.Buchi{empty, nils} {
		for _, b := range []api.Buchi{empty, nils} {
			got, err := buchi.Both(a, b)
			made(t, "Both", got, err, api.Buchi{})
		}
		got, err := buchi.Trim(a)
		made(t, "Trim", got, err, api.Buchi{})
		for _, w := range []api.Word{{Loop: []uint16{0}}, {Stem: []uint16{}, Loop: []uint16{0}}} {
			if is, err := buchi.Accepts(a, w); is || err != api.OK {
				t.Errorf("Accepts: %v, %v", is, err)
			}
		}
	}
	one := api.General{States: 1, Init: []int{0}, Edges: []api.Edge{{}}}
	for _, sets := range [][][]int{nil, {}} {
		one.Sets = sets
		wantAccepts(t, one, loop(0), true)
		got, err := buchi.Degen(one)
		made(t, "without sets", got, err, api.Buchi{States: 1, Init: []int{0}, Edges: []api.Edge{{}}, Final: []int{0}})
	}
	for _, sets := range [][][]int{{nil}, {{}}} {
		one.Sets = sets
		wantAccepts(t, one, loop(0), false)
		got, err := buchi.Degen(one)
		made(t, "with an empty set", got, err, api.Buchi{States: 1, Init: []int{0}, Edges: []api.Edge{{}}})
	}
}

// Automata are lent to several at one time; what comes hangs on nothing else.
func TestAtOneTime(t *testing.T) {
	d := draw(10)
	g := d.general(6, 2, 3)
	for len(g.Init) == 0 || len(g.Edges) < 12 || len(g.Sets) < 2 {
		g = d.general(6, 2, 3)
	}
	w := d.word(2, 3, 3)
	first, _ := buchi.Degen(g)
	is, _ := buchi.AcceptsGeneral(g, w)
	both, _ := buchi.Both(first, first)
	letters := buchi.Letters(1, 0, 8)
	var all sync.WaitGroup
	for range 8 {
		all.Go(func() {
			for range 50 {
				a, _ := buchi.Degen(g)
				b, _ := buchi.Both(first, first)
				now, _ := buchi.AcceptsGeneral(g, w)
				if !same(a, first) || !same(b, both) || now != is || len(slices.Collect(letters)) != 128 {
					t.Errorf("%+v, and then %+v", first, a)
				}
			}
		})
	}
	all.Wait()
}
