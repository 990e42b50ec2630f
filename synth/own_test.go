package synth_test

import (
	"slices"
	"sync"
	"testing"

	"augur/api"
	"augur/synth"
)

// memory notes which memory lists have, the room behind them with it. (By where each item is: pointers of one type are alike just if they point to one thing.)
type memory struct {
	t    *testing.T
	seen map[any]string
}

func note[T any](m memory, who string, list []T) {
	m.t.Helper()
	whole := list[:cap(list)]
	for i := range whole {
		at := any(&whole[i])
		if other, twice := m.seen[at]; twice {
			m.t.Fatalf("%s shares memory with %s", who, other)
		}
		m.seen[at] = who
	}
}

func (m memory) machine(who string, x api.Moore) {
	m.t.Helper()
	note(m, who+": Props", x.Props)
	note(m, who+": Next", x.Next)
	for _, row := range x.Next {
		note(m, who+": a row", row)
	}
	note(m, who+": Out", x.Out)
}

// spoil changes all of a list, and the room behind it.
func spoil[T any](list []T, with T) {
	whole := list[:cap(list)]
	for i := range whole {
		whole[i] = with
	}
}

func spoilMachine(m api.Moore) {
	for _, row := range m.Next {
		spoil(row, 99)
	}
	spoil(m.Props, "spoilt")
	spoil(m.Next, []int{99})
	spoil(m.Out, 99)
}

// roomy is a list with something behind it; room is what stands there.
func roomy[T any](list []T, room T) []T {
	return append(slices.Clip(slices.Clone(list)), room)[:len(list)]
}

func room[T any](list []T) T { return list[:len(list)+1][len(list)] }

func roomyFormula(f api.Formula) api.Formula {
	kids := make([]api.Formula, len(f.Kids))
	for i, kid := range f.Kids {
		kids[i] = roomyFormula(kid)
	}
	return api.Formula{Op: f.Op, Name: f.Name, Kids: roomy(kids, prop("room"))}
}

func noteFormula(m memory, f api.Formula) {
	m.t.Helper()
	note(m, "what is lent", f.Kids)
	for _, kid := range f.Kids {
		noteFormula(m, kid)
	}
}

// isAsItWas tells whether a roomy formula is still f, with its rooms.
func isAsItWas(lent, f api.Formula) bool {
	isKid := func(a, b api.Formula) bool { return isAsItWas(a, b) }
	return lent.Op == f.Op && lent.Name == f.Name && slices.EqualFunc(lent.Kids, f.Kids, isKid) && room(lent.Kids).Name == "room"
}

func spoilFormula(f api.Formula) {
	for _, kid := range f.Kids {
		spoilFormula(kid)
	}
	spoil(f.Kids, prop("spoilt"))
}

// R2 of Of: what is lent stays as it is, with the room behind it; nothing of it is kept; what comes out is the asker's own, lists within lists, too.
func TestOwnOf(t *testing.T) {
	for i, x := range someCounted(t, 150) {
		names := [][]string{ab(), {"b", "a"}, {"x", "a", "b"}}[i%3]
		want := madeOf(t, x.f, names, wide())
		f, list := roomyFormula(x.f), roomy(names, "room")
		all := memory{t, map[any]string{}}
		noteFormula(all, f)
		note(all, "what is lent", list)
		for range 3 {
			m := madeOf(t, f, list, wide())
			if !same(m, want) || !isAsItWas(f, x.f) || !slices.Equal(list, names) || room(list) != "room" {
				t.Fatalf("%s: %+v, want %+v; %+v, %q", x.text, m, want, f, list)
			}
			all.machine("a machine", m)
			spoilMachine(m)
		}
		l := wide()
		l.States = 0
		wantOfRefused(t, f, list, l, api.ErrLimitStates)
		if !isAsItWas(f, x.f) || !slices.Equal(list, names) || room(list) != "room" {
			t.Fatalf("%s: %+v, %q behind what is refused", x.text, f, list)
		}
		keep := madeOf(t, f, list, wide())
		spoilFormula(f)
		spoil(list, "spoilt")
		if !same(keep, want) {
			t.Fatalf("%s: %+v, want %+v", x.text, keep, want)
		}
	}
}

// R2 of what is refused by its form.
func TestOwnOfWrong(t *testing.T) {
	formless, great := badTrees()
	for _, f := range append(formless, great...) {
		lent, list := roomyFormula(f), roomy(ab(), "room")
		if _, err := synth.Of(lent, list, wide()); err == nil || !isAsItWas(lent, f) || !slices.Equal(list, ab()) || room(list) != "room" {
			t.Fatalf("%v, %q", err, list)
		}
	}
	for _, names := range badLists() {
		list := roomy(names, "room")
		if _, err := synth.Of(prop("a"), list, wide()); err == nil || !slices.Equal(list, names) || room(list) != "room" {
			t.Fatalf("%v, %q", err, list)
		}
	}
}

// R2 of Synthesize and of a cache: no two machines share memory, with each other or with what is kept.
func TestOwnCache(t *testing.T) {
	c := synth.NewCache(wide())
	all := memory{t, map[any]string{}}
	for _, text := range append(texts(), "(a U b)", "a  U b") {
		want := made(t, text, wide())
		all.machine("Synthesize", want)
		for range 3 {
			m, err := c.Get(text)
			if err != nil || !same(m, want) {
				t.Fatalf("%s: %+v, %v; want %+v", text, m, err, want)
			}
			all.machine("Get", m)
			spoilMachine(m)
			machines, errors := c.All(2, text, text)
			note(all, "All", machines)
			note(all, "All's errors", errors)
			for i, m := range machines {
				if errors[i] != nil || !same(m, want) {
					t.Fatalf("%s: %+v, %v; want %+v", text, m, errors[i], want)
				}
				all.machine("All", m)
				spoilMachine(m)
			}
			spoil(machines, api.Moore{})
			spoil(errors, nil)
		}
	}
}

// R6: a list that is nil and one that is empty are the same.
func TestNilAndEmpty(t *testing.T) {
	for _, names := range [][]string{nil, {}} {
		if m := madeOf(t, api.Formula{Op: api.OpTrue, Kids: []api.Formula{}}, names, wide()); !same(m, machine(nil, st(1, 0))) {
			t.Errorf("%+v", m)
		}
		wantOfRefused(t, prop("a"), names, wide(), api.ErrEvalProp)
		c := synth.NewCache(wide())
		if machines, errors := c.All(1, names...); len(machines) != 0 || len(errors) != 0 {
			t.Errorf("%v, %v", machines, errors)
		}
	}
}

// A formula and a list are lent to several at one time.
func TestAtOneTime(t *testing.T) {
	f, names := read("G (a -> X (!a U b))"), []string{"b", "x", "a"}
	want := madeOf(t, f, names, wide())
	var all sync.WaitGroup
	for range 8 {
		all.Go(func() {
			for range 20 {
				m, err := synth.Of(f, names, synth.Default())
				if err != nil || !same(m, want) {
					t.Errorf("%+v, %v", m, err)
				}
				if c, ok := synth.Count("a U b", synth.Default()); !ok || c.States != 4 {
					t.Errorf("%+v, %v", c, ok)
				}
			}
		})
	}
	all.Wait()
}
