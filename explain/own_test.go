package explain_test

import (
	"slices"
	"sync"
	"testing"

	"augur/api"
	"augur/explain"
)

// memory notes whose each place is: of lists that came out, with the room behind them, and of those that are lent.
type memory map[any]string

// note wants that nobody else has any place of a list.
func note[T any](t *testing.T, m memory, who string, list []T) {
	t.Helper()
	whole := list[:cap(list)]
	for i := range whole {
		if other, is := m[&whole[i]]; is {
			t.Fatalf("%s shares memory with %s", who, other)
		}
		m[&whole[i]] = who
	}
}

// spoil changes all of a list, and the room behind it.
func spoil[T any](list []T, with T) {
	whole := list[:cap(list)]
	for i := range whole {
		whole[i] = with
	}
}

// roomy is a list with something behind it; room is what stands there.
func roomy[T any](list []T, room T) []T {
	return append(slices.Clip(slices.Clone(list)), room)[:len(list)]
}

func room[T any](list []T) T { return list[:len(list)+1][len(list)] }

// lent is a copy with something behind each list; kept tells whether all of that is as it was.
func lent(m api.Moore) api.Moore {
	l := api.Moore{Props: roomy(m.Props, "room"), Next: roomy(m.Next, []int{-7}), Out: roomy(m.Out, 7)}
	for i, row := range m.Next {
		l.Next[i] = roomy(row, -7)
	}
	return l
}

func kept(l, m api.Moore) bool {
	isSpoilt := func(row []int) bool { return room(row) != -7 }
	return slices.Equal(l.Props, m.Props) && slices.Equal(l.Out, m.Out) && slices.EqualFunc(l.Next, m.Next, slices.Equal) &&
		room(l.Props) == "room" && slices.Equal(room(l.Next), []int{-7}) && room(l.Out) == 7 && !slices.ContainsFunc(l.Next, isSpoilt)
}

func roomyFormula(f api.Formula) api.Formula {
	kids := make([]api.Formula, len(f.Kids))
	for i, kid := range f.Kids {
		kids[i] = roomyFormula(kid)
	}
	f.Kids = roomy(kids, api.Formula{Name: "room"})
	return f
}

func isAsItWas(l, f api.Formula) bool {
	return l.Op == f.Op && l.Name == f.Name && room(l.Kids).Name == "room" && slices.EqualFunc(l.Kids, f.Kids, isAsItWas)
}

// R2: formula, names and letters stay as they are, with the room behind them; what comes out is the asker's own.
func TestOwnWitness(t *testing.T) {
	d := draw(51)
	for _, f := range some(80, 4) {
		l, names := roomyFormula(f), roomy(ab(), "room")
		letters := d.letters(d.below(5), 2)
		u := roomy(letters, 77)
		m := memory{}
		note(t, m, "u", u)
		var first [2]string
		for i := range 3 {
			holds, fails, err := explain.Witness(l, names, u...)
			got := [2]string{shown(t, holds), shown(t, fails)}
			if err != api.OK || i > 0 && got != first {
				t.Fatalf("%s behind %v: %v, %v; want %v", told(f), u, got, err, first)
			}
			first = got
			for _, list := range [][]api.Word{holds, fails} {
				note(t, m, "a list", list)
				for _, w := range list {
					note(t, m, "a stem", w.Stem)
					note(t, m, "a loop", w.Loop)
					spoil(w.Stem, 99)
					spoil(w.Loop, 99)
				}
				spoil(list, api.Word{})
			}
			classOf(t, l, names)
		}
		if !isAsItWas(l, f) || !slices.Equal(names, ab()) || room(names) != "room" || !slices.Equal(u, letters) || room(u) != 77 {
			t.Fatalf("%s, %q, %v are not as they were", told(f), names, u)
		}
	}
}

// R2: so do machines.
func TestOwnNearest(t *testing.T) {
	d := draw(52)
	for range 500 {
		x := d.machine(8, d.below(4))
		l := lent(x)
		m := memory{}
		note(t, m, "Out", l.Out)
		note(t, m, "Next", l.Next)
		for _, row := range l.Next {
			note(t, m, "a row of Next", row)
		}
		var rows [][]uint16
		for range 3 {
			dead, err := explain.Dead(l)
			if err != api.OK || !slices.Equal(dead, deadByHand(x)) {
				t.Fatalf("%+v: %v, %v", x, dead, err)
			}
			note(t, m, "Dead", dead)
			spoil(dead, 99)
			for state := range x.Next {
				for v := api.True; v <= api.Inconclusive; v++ {
					u, _, err := explain.Nearest(l, state, v)
					if err != api.OK {
						t.Fatal(err)
					}
					rows = append(rows, slices.Clone(u))
					note(t, m, "Nearest", u)
					spoil(u, 99)
				}
			}
		}
		asked := len(rows) / 3
		if !slices.EqualFunc(rows[:asked], rows[asked:2*asked], slices.Equal) || !slices.EqualFunc(rows[:asked], rows[2*asked:], slices.Equal) || !kept(l, x) {
			t.Fatalf("%+v, %+v: %v", x, l, rows)
		}
	}
}

// What is changed behind a call changes nothing of what it told; and rows of a machine may be one and the same list.
func TestRowsInCommon(t *testing.T) {
	row := []int{1, 2}
	m := api.Moore{Props: []string{"a"}, Next: [][]int{row, row, row}, Out: []api.Verdict{3, 3, 1}}
	u, found, _ := explain.Nearest(m, 0, api.True)
	row[0], row[1] = 0, 0
	if !found || !slices.Equal(u, []uint16{1}) {
		t.Errorf("%v, %v", u, found)
	}
	wantNearest(t, m, 1, api.True, nil, false)
	wantDead(t, m, 0, 1)
}

// R6: a list that is nil and one that is empty are the same.
func TestNilAndEmpty(t *testing.T) {
	for _, kids := range [][]api.Formula{nil, {}} {
		f := api.Formula{Op: api.OpFalse, Kids: kids}
		for _, names := range [][]string{nil, {}} {
			for _, u := range [][]uint16{nil, {}} {
				wantWitness(t, f, names, u, "", "(0)")
			}
			wantClass(t, f, names, api.Class{Empty: true, Safe: true, CoSafe: true, Monitorable: true})
			m := api.Moore{Props: names, Next: [][]int{{1}, {1}}, Out: []api.Verdict{3, 2}}
			wantNearest(t, m, 0, api.False, []uint16{0}, true)
			wantDead(t, m)
		}
	}
}

// Several hands may ask at once of the same things, and are told the same.
func TestManyHands(t *testing.T) {
	d := draw(53)
	list := some(60, 3)
	m := d.machine(200, 3)
	u := d.letters(6, 2)
	var all sync.WaitGroup
	tell := make([][]any, 6)
	for hand := range tell {
		all.Go(func() {
			for _, f := range list {
				holds, fails, err := explain.Witness(f, ab(), u...)
				c, err2 := explain.Classify(f, ab())
				tell[hand] = append(tell[hand], len(holds), len(fails), err, c, err2)
			}
			for state := range m.Next {
				row, found, _ := explain.Nearest(m, state, api.False)
				dead, _ := explain.Dead(m)
				tell[hand] = append(tell[hand], len(row), found, len(dead))
			}
		})
	}
	all.Wait()
	for hand := range tell {
		if !slices.Equal(tell[hand], tell[0]) {
			t.Errorf("hand %d is told other things than the first one", hand)
		}
	}
}
