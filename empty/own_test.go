package empty_test

import (
	"slices"
	"sync"
	"testing"

	"augur/api"
	"augur/bits"
	"augur/empty"
)

// memory notes which memory lists have, the room behind them with it. (By where each item is: pointers of one type are alike just if they point to one thing.)
type memory struct {
	t    *testing.T
	seen map[any]string
}

func note[T any](m memory, who string, list []T) {
	m.t.Helper()
	whole := list[:cap(list)]
	for i := range whole {
		at := any(&whole[i])
		if other, twice := m.seen[at]; twice {
			m.t.Fatalf("%s shares memory with %s", who, other)
		}
		m.seen[at] = who
	}
}

// spoil changes all of a list, and the room behind it.
func spoil[T any](list []T, with T) {
	whole := list[:cap(list)]
	for i := range whole {
		whole[i] = with
	}
}

// roomy is a list with something behind it.
func roomy[T any](list []T, room T) []T {
	return append(slices.Clip(slices.Clone(list)), room)[:len(list)]
}

// room is what stands behind a roomy list.
func room[T any](list []T) T { return list[:len(list)+1][len(list)] }

// lent is a copy with something behind each list; kept tells whether all of that is as it was.
func lent(a api.Buchi) api.Buchi {
	return api.Buchi{Props: roomy(a.Props, "room"), States: a.States, Init: roomy(a.Init, -7), Edges: roomy(a.Edges, api.Edge{From: -7}), Final: roomy(a.Final, -7)}
}

func kept(l, a api.Buchi) bool {
	return sameAutomaton(l, a) && room(l.Props) == "room" && room(l.Init) == -7 && room(l.Edges) == api.Edge{From: -7} && room(l.Final) == -7
}

func sameAutomaton(a, b api.Buchi) bool {
	return slices.Equal(a.Props, b.Props) && a.States == b.States && slices.Equal(a.Init, b.Init) && slices.Equal(a.Edges, b.Edges) && slices.Equal(a.Final, b.Final)
}

func spoilAll(a api.Buchi) {
	spoil(a.Props, "spoilt")
	spoil(a.Init, 99)
	spoil(a.Edges, api.Edge{From: 99})
	spoil(a.Final, 99)
}

// answers are what all calls answer, of one automaton.
type answers struct {
	live          *bits.Set
	none, is, was bool
	from, witness api.Word
}

func ask(t *testing.T, a api.Buchi, states []int) answers {
	t.Helper()
	var x answers
	var errs [4]api.Errno
	x.live, errs[0] = empty.Live(a)
	x.none, errs[1] = empty.Empty(a)
	x.witness, x.was, errs[2] = empty.Witness(a)
	x.from, x.is, errs[3] = empty.From(a, states...)
	if errs != [4]api.Errno{} {
		t.Fatalf("%+v, %v: %v", a, states, errs)
	}
	return x
}

func (x answers) same(y answers) bool {
	return x.live.Same(y.live) && x.none == y.none && x.is == y.is && x.was == y.was && sameWord(x.from, y.from) && sameWord(x.witness, y.witness)
}

// R2: what is handed in stays as it is, with the room behind it; nothing of it is kept; what comes out is the asker's own.
func TestOwn(t *testing.T) {
	d := draw(6)
	for range 1000 {
		a := d.automaton(6, d.below(3))
		states := d.some(a.States, 2)
		slices.Reverse(states)
		want := ask(t, a, states)
		x, y := lent(a), roomy(states, -7)
		m := memory{t, map[any]string{}}
		note(m, "what is lent", x.Init)
		note(m, "what is lent", x.Final)
		note(m, "what is lent", y)
		for range 3 {
			got := ask(t, x, y)
			if !kept(x, a) || !slices.Equal(y, states) || room(y) != -7 {
				t.Fatalf("%+v, %v are not as they were: %+v, %v", a, states, x, y)
			}
			if !got.same(want) {
				t.Fatalf("%+v, and then %+v", want, got)
			}
			for _, w := range []api.Word{got.from, got.witness} {
				note(m, "a stem", w.Stem)
				note(m, "a loop", w.Loop)
				spoil(w.Stem, 9)
				spoil(w.Loop, 9)
			}
			for q := range a.States { // the set that came out, turned round
				if got.live.Has(q) {
					got.live.Cut(q)
				} else {
					got.live.Put(q)
				}
			}
		}
		keep := ask(t, x, y)
		spoilAll(x)
		spoil(y, 99)
		if !keep.same(want) {
			t.Fatalf("%+v, and then %+v", want, keep)
		}
	}
}

// R6: a list that is nil and one that is empty are the same.
func TestNilAndEmpty(t *testing.T) {
	nils := api.Buchi{States: 2}
	empties := api.Buchi{Props: []string{}, States: 2, Init: []int{}, Edges: []api.Edge{}, Final: []int{}}
	for _, a := range []api.Buchi{nils, empties} {
		wantLive(t, a, nil)
		for _, states := range [][]int{nil, {}, {0, 1}} {
			wantFrom(t, a, states, api.Word{})
		}
	}
	for _, states := range [][]int{nil, {}} {
		wantFrom(t, example(0, 1, 2), states, api.Word{})
	}
}

// Witness is From of Init.
func TestWitnessIsFromInit(t *testing.T) {
	d := draw(7)
	for range 2000 {
		a := d.automaton(7, d.below(3))
		w, is, err := empty.Witness(a)
		v, was, err2 := empty.From(a, a.Init...)
		if !sameWord(w, v) || is != was || err != err2 {
			t.Fatalf("%+v: %v, %v, %v; %v, %v, %v", a, w, is, err, v, was, err2)
		}
		// And From does not look at Init.
		b := a
		b.Init = nil
		wantFrom(t, b, a.Init, w)
	}
}

// Automata are lent to several at one time.
func TestAtOneTime(t *testing.T) {
	d := draw(8)
	a := d.automaton(20, 2)
	states := []int{0, 1}
	for len(a.Init) < 2 || len(a.Final) < 4 || len(a.Edges) < 30 {
		a = d.automaton(20, 2)
	}
	want := ask(t, a, states)
	var all sync.WaitGroup
	for range 8 {
		all.Go(func() {
			for range 50 {
				live, _ := empty.Live(a)
				w, is, _ := empty.From(a, states...)
				if !live.Same(want.live) || is != want.is || !sameWord(w, want.from) {
					t.Errorf("%+v, and then %v, %v", want, w, is)
				}
			}
		})
	}
	all.Wait()
}
