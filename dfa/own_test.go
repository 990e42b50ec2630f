package dfa_test

import (
	"slices"
	"sync"
	"testing"

	"augur/api"
	"augur/bits"
	"augur/dfa"
)

// memory notes which memory lists have, the room behind them with it. (By where each item is: pointers of one type are alike just if they point to one thing.)
type memory struct {
	t    *testing.T
	seen map[any]string
}

func note[T any](m memory, who string, list []T) {
	m.t.Helper()
	whole := list[:cap(list)]
	for i := range whole {
		at := any(&whole[i])
		if other, twice := m.seen[at]; twice {
			m.t.Fatalf("%s shares memory with %s", who, other)
		}
		m.seen[at] = who
	}
}

func (m memory) dfa(who string, d api.DFA) {
	m.t.Helper()
	note(m, who+": Props", d.Props)
	note(m, who+": Next", d.Next)
	for _, row := range d.Next {
		note(m, who+": a row", row)
	}
	note(m, who+": Live", d.Live)
}

// spoil changes all of a list, and the room behind it.
func spoil[T any](list []T, with T) {
	whole := list[:cap(list)]
	for i := range whole {
		whole[i] = with
	}
}

func spoilDFA(d api.DFA) {
	for _, row := range d.Next {
		spoil(row, 99)
	}
	spoil(d.Props, "spoilt")
	spoil(d.Next, []int{99})
	for i := range d.Live {
		d.Live[i] = !d.Live[i]
	}
}

func spoilBuchi(a api.Buchi) {
	spoil(a.Props, "spoilt")
	spoil(a.Init, 99)
	spoil(a.Edges, api.Edge{From: 99})
	spoil(a.Final, 99)
}

// spoilSet turns a set round.
func spoilSet(s *bits.Set) {
	for i := range s.Width() {
		if s.Has(i) {
			s.Cut(i)
		} else {
			s.Put(i)
		}
	}
}

// roomy is a list with something behind it.
func roomy[T any](list []T, room T) []T {
	return append(slices.Clip(slices.Clone(list)), room)[:len(list)]
}

// room is what stands behind a roomy list.
func room[T any](list []T) T { return list[:len(list)+1][len(list)] }

// lent is a copy with something behind each list; kept tells whether all of that is as it was.
func lent(a api.Buchi) api.Buchi {
	return api.Buchi{Props: roomy(a.Props, "room"), States: a.States, Init: roomy(a.Init, -7), Edges: roomy(a.Edges, api.Edge{From: -7}), Final: roomy(a.Final, -7)}
}

func kept(l, a api.Buchi) bool {
	is := slices.Equal(a.Props, l.Props) && a.States == l.States && slices.Equal(a.Init, l.Init) && slices.Equal(a.Edges, l.Edges) && slices.Equal(a.Final, l.Final)
	return is && room(l.Props) == "room" && room(l.Init) == -7 && room(l.Edges) == api.Edge{From: -7} && room(l.Final) == -7
}

// lentDFA and keptDFA likewise.
func lentDFA(d api.DFA) api.DFA {
	l := api.DFA{Props: roomy(d.Props, "room"), Next: roomy(d.Next, []int{-7}), Live: roomy(d.Live, true)}
	for i, row := range d.Next {
		l.Next[i] = roomy(row, -7)
	}
	return l
}

func keptDFA(l, d api.DFA) bool {
	for _, row := range l.Next {
		if room(row) != -7 {
			return false
		}
	}
	return same(l, d) && room(l.Props) == "room" && slices.Equal(room(l.Next), []int{-7}) && room(l.Live)
}

// R2 of Build: what is handed in stays as it is, with the room behind it; nothing of it is kept; what comes out is the asker's own, lists within lists, too.
func TestOwn(t *testing.T) {
	d := draw(11)
	for range 500 {
		a := d.automaton(6, d.below(4))
		live := bits.Of(a.States, d.some(a.States, 4)...)
		want, _ := byHand(a, live, 999)
		x, y := lent(a), live.Copy()
		m := memory{t, map[any]string{}}
		note(m, "what is lent", x.Props)
		note(m, "what is lent", x.Init)
		note(m, "what is lent", x.Final)
		build := func(most int) api.DFA {
			got, err := dfa.Build(x, y, most)
			if !kept(x, a) || !y.Same(live) {
				t.Fatalf("%+v is not as it was: %+v", a, x)
			}
			if most < len(want.Next) != (err == api.ErrLimitStates) {
				t.Fatalf("%+v, at most %d: %v", a, most, err)
			}
			return got
		}
		for range 3 {
			build(len(want.Next) - 1)
			got := build(999)
			if !same(got, want) {
				t.Fatalf("%+v: %+v, want %+v", a, got, want)
			}
			m.dfa("a DFA", got)
			spoilDFA(got)
		}
		keep := build(999)
		spoilBuchi(x)
		spoilSet(y)
		if !same(keep, want) {
			t.Fatalf("%+v: %+v, and then %+v", a, want, keep)
		}
		if got, err := dfa.Build(a, live, 999); err != api.OK || !same(got, want) {
			t.Fatalf("%+v: %+v, and then %+v", a, want, got)
		}
	}
}

// R2 of Check, Run and Has.
func TestOwnRuns(t *testing.T) {
	d := draw(12)
	for range 500 {
		props := d.below(4)
		x := d.dfa(6, props)
		u := d.row(props, d.below(6))
		y, v := lentDFA(x), roomy(u, 7)
		state, err := dfa.Run(y, v...)
		is, err2 := dfa.Has(y, v...)
		if err != api.OK || err2 != api.OK || dfa.Check(y) != api.OK || is != x.Live[state] {
			t.Fatalf("%+v, %v: %d, %v", x, u, state, is)
		}
		if !keptDFA(y, x) || !slices.Equal(u, v) || room(v) != 7 {
			t.Fatalf("%+v, %v are not as they were: %+v, %v", x, u, y, v)
		}
		spoilDFA(y)
		wantRun(t, x, state, u...)
	}
}

// R6: a list that is nil and one that is empty are the same.
func TestNilAndEmpty(t *testing.T) {
	nils := api.Buchi{States: 2}
	empties := api.Buchi{Props: []string{}, States: 2, Init: []int{}, Edges: []api.Edge{}, Final: []int{}}
	for _, a := range []api.Buchi{nils, empties} {
		wantBuild(t, a, full(2), api.DFA{Next: [][]int{{0}}, Live: []bool{false}})
	}
	for _, names := range [][]string{nil, {}} {
		d := api.DFA{Props: names, Next: [][]int{{1}, {0}}, Live: []bool{true, false}}
		for _, u := range [][]uint16{nil, {}} {
			wantRun(t, d, 0, u...)
		}
		wantRun(t, d, 1, 0, 0, 0)
	}
}

// Automata, sets and DFAs are lent to several at one time.
func TestAtOneTime(t *testing.T) {
	d := draw(13)
	a := d.automaton(12, 2)
	for len(a.Init) < 2 || len(a.Edges) < 20 {
		a = d.automaton(12, 2)
	}
	live := full(a.States)
	want, _ := byHand(a, live, 9999)
	u := d.row(2, 10)
	state, _ := dfa.Run(want, u...)
	var all sync.WaitGroup
	for range 8 {
		all.Go(func() {
			for range 50 {
				got, err := dfa.Build(a, live, 9999)
				behind, _ := dfa.Run(want, u...)
				if err != api.OK || !same(got, want) || behind != state {
					t.Errorf("%+v, and then %+v, %v", want, got, err)
				}
			}
		})
	}
	all.Wait()
}
