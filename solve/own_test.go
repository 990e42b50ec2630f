package solve_test

import (
	"slices"
	"sync"
	"testing"

	"augur/api"
	"augur/solve"
)

// memory notes whose each place is, of lists that came out, with the room behind them.
type memory map[any]string

// note wants that nobody else has any place of a list.
func note[T any](t *testing.T, m memory, who string, list []T) {
	t.Helper()
	whole := list[:cap(list)]
	for i := range whole {
		if other, is := m[&whole[i]]; is {
			t.Fatalf("%s shares memory with %s", who, other)
		}
		m[&whole[i]] = who
	}
}

// spoil changes all of a list, and the room behind it.
func spoil[T any](list []T, with T) {
	whole := list[:cap(list)]
	for i := range whole {
		whole[i] = with
	}
}

// roomy is a list with something behind it; room is what stands there.
func roomy[T any](list []T, room T) []T {
	return append(slices.Clip(slices.Clone(list)), room)[:len(list)]
}

func room[T any](list []T) T { return list[:len(list)+1][len(list)] }

func roomyFormula(f api.Formula) api.Formula {
	kids := make([]api.Formula, len(f.Kids))
	for i, kid := range f.Kids {
		kids[i] = roomyFormula(kid)
	}
	f.Kids = roomy(kids, api.Formula{Name: "room"})
	return f
}

func isAsItWas(l, f api.Formula) bool {
	return l.Op == f.Op && l.Name == f.Name && room(l.Kids).Name == "room" && slices.EqualFunc(l.Kids, f.Kids, isAsItWas)
}

// R2: formulas and names stay as they are, with the room behind them; each word that comes out is the asker's own.
func TestOwnWords(t *testing.T) {
	list := some(80, 4)
	for i, f := range list {
		g := list[(i*3+1)%len(list)]
		l, names := []api.Formula{roomyFormula(f), roomyFormula(g)}, roomy(ab(), "room")
		m := memory{}
		for _, c := range calls() {
			first := ""
			for k := range 3 {
				w, _, err := c.ask(names, l[:c.of]...)
				if got := shown(w); err != api.OK || k > 0 && got != first {
					t.Fatalf("%s(%s): %q, %v; want %q", c.name, toldAll(l[:c.of]), got, err, first)
				} else {
					first = got
				}
				note(t, m, "a stem", w.Stem)
				note(t, m, "a loop", w.Loop)
				spoil(w.Stem, 99)
				spoil(w.Loop, 99)
			}
		}
		if !isAsItWas(l[0], f) || !isAsItWas(l[1], g) || !slices.Equal(names, ab()) || room(names) != "room" {
			t.Fatalf("%s, %s, %q are not as they were", told(f), told(g), names)
		}
	}
}

// R2: so it is with cores; a list handed in whole stays as it is, too.
func TestOwnCores(t *testing.T) {
	parts := readAll("a", "!a", "b -> a", "G b", "F !b", "X a", "a U b", "false")
	d := draw(52)
	for range 100 {
		var were []api.Formula
		for range d.below(8) {
			were = append(were, parts[d.below(len(parts))])
		}
		var l []api.Formula
		for _, f := range were {
			l = append(l, roomyFormula(f))
		}
		l = roomy(l, prop("room"))
		names := roomy(ab(), "room")
		m := memory{}
		var first []int
		for k := range 3 {
			row, _, err := solve.Core(names, l...)
			if err != api.OK || k > 0 && !slices.Equal(row, first) {
				t.Fatalf("Core(%s): %v, %v; want %v", toldAll(were), row, err, first)
			}
			first = slices.Clone(row)
			note(t, m, "a core", row)
			spoil(row, 99)
		}
		if !slices.EqualFunc(l, were, isAsItWas) || room(l).Name != "room" || !slices.Equal(names, ab()) || room(names) != "room" {
			t.Fatalf("%s, %q are not as they were", toldAll(were), names)
		}
	}
}

// R6: a list that is nil and one that is empty are the same.
func TestNilAndEmpty(t *testing.T) {
	all := calls()
	for _, kids := range [][]api.Formula{nil, {}} {
		yes, no := api.Formula{Op: api.OpTrue, Kids: kids}, api.Formula{Op: api.OpFalse, Kids: kids}
		for _, names := range [][]string{nil, {}} {
			wantTold(t, all[0], names, []api.Formula{yes}, true, []uint16{0}, []uint16{0})
			wantTold(t, all[0], names, []api.Formula{no}, false, nil, nil)
			wantTold(t, all[1], names, []api.Formula{yes}, true, nil, nil)
			wantTold(t, all[1], names, []api.Formula{no}, false, []uint16{0}, []uint16{0})
			wantTold(t, all[2], names, []api.Formula{no, yes}, true, nil, nil)
			wantTold(t, all[3], names, []api.Formula{yes, api.Formula{Op: api.OpTrue}}, true, nil, nil)
			wantCore(t, names, kids, false)
			wantCore(t, names, []api.Formula{yes, no}, true, 1)
		}
	}
}

// Trees may be one and the same, and have parts in common.
func TestInCommon(t *testing.T) {
	f := read("G (a -> F b)")
	both := op(api.OpAnd, f, f.Kids[0])
	wantTold(t, calls()[2], ab(), []api.Formula{f, f}, true, nil, nil)
	wantTold(t, calls()[3], ab(), []api.Formula{f, both}, true, nil, nil)
	wantCore(t, ab(), []api.Formula{f, both, not(f)}, true, 0, 2)
}

// Several hands may ask at once of the same things, and are told the same.
func TestManyHands(t *testing.T) {
	list := some(50, 4)
	var all sync.WaitGroup
	tell := make([][]any, 6)
	for hand := range tell {
		all.Go(func() {
			for i := range len(list) - 2 {
				for _, c := range calls() {
					w, is, err := c.ask(ab(), list[i:i+c.of]...)
					tell[hand] = append(tell[hand], shown(w), is, err)
				}
				row, is, err := solve.Core(ab(), list[i:i+3]...)
				tell[hand] = append(tell[hand], len(row), is, err)
			}
		})
	}
	all.Wait()
	for hand := range tell {
		if !slices.Equal(tell[hand], tell[0]) {
			t.Errorf("hand %d is told other things than the first one", hand)
		}
	}
}
