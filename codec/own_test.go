package codec_test

import (
	"bytes"
	"slices"
	"sync"
	"testing"

	"augur/api"
	"augur/codec"
)

// memory notes which memory lists have, the room behind them with it. (By where each item is: pointers of one type are alike just if they point to one thing.)
type memory struct {
	t    *testing.T
	seen map[any]string
}

func note[T any](m memory, who string, list []T) {
	m.t.Helper()
	whole := list[:cap(list)]
	for i := range whole {
		at := any(&whole[i])
		if other, twice := m.seen[at]; twice {
			m.t.Fatalf("%s shares memory with %s", who, other)
		}
		m.seen[at] = who
	}
}

func (m memory) formula(who string, f api.Formula) {
	m.t.Helper()
	note(m, who+": kids", f.Kids)
	for _, kid := range f.Kids {
		m.formula(who, kid)
	}
}

func (m memory) word(who string, w api.Word) {
	m.t.Helper()
	note(m, who+": Stem", w.Stem)
	note(m, who+": Loop", w.Loop)
}

func (m memory) machine(who string, x api.Moore) {
	m.t.Helper()
	note(m, who+": Props", x.Props)
	note(m, who+": Next", x.Next)
	for _, row := range x.Next {
		note(m, who+": a row", row)
	}
	note(m, who+": Out", x.Out)
}

func (m memory) automaton(who string, a api.Buchi) {
	m.t.Helper()
	note(m, who+": Props", a.Props)
	note(m, who+": Init", a.Init)
	note(m, who+": Edges", a.Edges)
	note(m, who+": Final", a.Final)
}

// spoil changes all of a list, and the room behind it.
func spoil[T any](list []T, with T) {
	whole := list[:cap(list)]
	for i := range whole {
		whole[i] = with
	}
}

func spoilFormula(f api.Formula) {
	for _, kid := range f.Kids {
		spoilFormula(kid)
	}
	spoil(f.Kids, api.Formula{Op: 99})
}

func spoilWord(w api.Word) {
	spoil(w.Stem, 65535)
	spoil(w.Loop, 65535)
}

func spoilMachine(m api.Moore) {
	for _, row := range m.Next {
		spoil(row, 99)
	}
	spoil(m.Props, "spoilt")
	spoil(m.Next, []int{99})
	spoil(m.Out, 99)
}

func spoilAutomaton(a api.Buchi) {
	spoil(a.Props, "spoilt")
	spoil(a.Init, 99)
	spoil(a.Edges, api.Edge{From: 99})
	spoil(a.Final, 99)
}

// roomy is a list with something behind it.
func roomy[T any](list []T, room T) []T {
	return append(slices.Clip(slices.Clone(list)), room)[:len(list)]
}

// room is what stands behind a roomy list.
func room[T any](list []T) T { return list[:len(list)+1][len(list)] }

func roomyFormula(f api.Formula) api.Formula {
	kids := roomy(f.Kids, api.Formula{Op: 77})
	for i, kid := range f.Kids {
		kids[i] = roomyFormula(kid)
	}
	return api.Formula{Op: f.Op, Name: f.Name, Kids: kids}
}

func roomsOfFormula(f api.Formula) bool {
	for _, kid := range f.Kids {
		if !roomsOfFormula(kid) {
			return false
		}
	}
	return room(f.Kids).Op == 77
}

func roomyWord(w api.Word) api.Word {
	return api.Word{Stem: roomy(w.Stem, 777), Loop: roomy(w.Loop, 777)}
}

func roomsOfWord(w api.Word) bool { return room(w.Stem) == 777 && room(w.Loop) == 777 }

func roomyMachine(m api.Moore) api.Moore {
	r := api.Moore{Props: roomy(m.Props, "room"), Next: roomy(m.Next, []int{-7}), Out: roomy(m.Out, 77)}
	for i, row := range m.Next {
		r.Next[i] = roomy(row, -7)
	}
	return r
}

func roomsOfMachine(m api.Moore) bool {
	isSpoilt := func(row []int) bool { return room(row) != -7 }
	return room(m.Props) == "room" && slices.Equal(room(m.Next), []int{-7}) && room(m.Out) == 77 && !slices.ContainsFunc(m.Next, isSpoilt)
}

func roomyAutomaton(a api.Buchi) api.Buchi {
	return api.Buchi{Props: roomy(a.Props, "room"), States: a.States, Init: roomy(a.Init, -7), Edges: roomy(a.Edges, api.Edge{From: -7}), Final: roomy(a.Final, -7)}
}

func roomsOfAutomaton(a api.Buchi) bool {
	return room(a.Props) == "room" && room(a.Init) == -7 && room(a.Edges).From == -7 && room(a.Final) == -7
}

// owner is what these tests do with a kind of things.
type owner[T any] struct {
	kind[T]
	note  func(memory, string, T)
	spoil func(T)
	roomy func(T) T
	rooms func(T) bool // whether what stands behind its lists is as it was
}

// wantOwn wants nothing that is handed in to be changed or kept, and all that comes out to be new memory.
func wantOwn[T any](t *testing.T, o owner[T], things []T) {
	t.Helper()
	for _, thing := range things {
		want := o.record(thing)
		lent := o.roomy(thing)
		m := memory{t, map[any]string{}}
		o.note(m, "what was handed in", lent)
		first, _ := o.write(lent)
		second, _ := o.write(lent)
		if !o.same(lent, thing) || !o.rooms(lent) {
			t.Fatalf("%s: %+v was changed", o.name, thing)
		}
		note(m, "the first record", first)
		note(m, "the second record", second)
		o.spoil(lent)
		spoil(first, 0xee)
		if !bytes.Equal(second, want) {
			t.Fatalf("%s: the record is %x, want %x", o.name, second, want)
		}
		wantOwnRead(t, o, thing, second)
	}
}

func wantOwnRead[T any](t *testing.T, o owner[T], thing T, record []byte) {
	t.Helper()
	lent := roomy(record, 0x77)
	m := memory{t, map[any]string{}}
	note(m, "the bytes", lent)
	one, _, _ := o.read(lent)
	two, _, _ := o.read(lent)
	if !bytes.Equal(lent, record) || room(lent) != 0x77 {
		t.Fatalf("%s: %x was changed", o.name, record)
	}
	o.note(m, "one that was read", one)
	o.note(m, "another", two)
	spoil(lent, 'x')
	o.spoil(one)
	if !o.same(two, thing) {
		t.Fatalf("%s: what was read of %x came to be %+v", o.name, record, two)
	}
	three, err, _ := o.read(record)
	if err != api.OK || !o.same(three, thing) {
		t.Fatalf("%s: %x is read as %+v, %v", o.name, record, three, err)
	}
}

func ownersOf() (owner[api.Formula], owner[api.Word], owner[api.Moore], owner[api.Buchi]) {
	return owner[api.Formula]{formulas(), memory.formula, spoilFormula, roomyFormula, roomsOfFormula},
		owner[api.Word]{infinite(), memory.word, spoilWord, roomyWord, roomsOfWord},
		owner[api.Moore]{machines(), memory.machine, spoilMachine, roomyMachine, roomsOfMachine},
		owner[api.Buchi]{automata(), memory.automaton, spoilAutomaton, roomyAutomaton, roomsOfAutomaton}
}

func TestOwn(t *testing.T) {
	f, w, m, a := ownersOf()
	wantOwn(t, f, someFormulas())
	wantOwn(t, w, someWords())
	wantOwn(t, m, someMachines())
	wantOwn(t, a, someAutomata())
}

// What is refused is not changed either.
func TestOwnOfWhatIsRefused(t *testing.T) {
	f, w, m, a := ownersOf()
	wantLeft(t, f, with(api.OpAnd, prop("p"), with(api.OpNext, with(api.OpYest, prop("q")))))
	wantLeft(t, w, api.Word{Stem: []uint16{1, 2}, Loop: []uint16{3, 256}})
	wantLeft(t, m, api.Moore{Props: []string{"p"}, Next: [][]int{{0, 1}, {1, 2}}, Out: []api.Verdict{1, 2}})
	wantLeft(t, a, api.Buchi{Props: []string{"p"}, States: 3, Init: []int{2, 1}, Final: []int{2, 0}, Edges: []api.Edge{{From: 2}, {From: 1}}})
}

func wantLeft[T any](t *testing.T, o owner[T], thing T) {
	t.Helper()
	lent := o.roomy(thing)
	wantRefused(t, o.kind, "wrong", lent)
	if !o.same(lent, thing) || !o.rooms(lent) {
		t.Errorf("%s: %+v was changed to %+v", o.name, thing, lent)
	}
	parts := append([]byte{o.which}, o.parts(thing)...)
	b := roomy(sealed(string(parts)), 0x77)
	wantNone(t, o.kind, b, 0)
	if !bytes.Equal(b, sealed(string(parts))) || room(b) != 0x77 {
		t.Errorf("%s: %x was changed", o.name, b)
	}
}

// R6: lists that are nil and those that are empty are one thing.
func TestNothing(t *testing.T) {
	for _, f := range []api.Formula{{Op: api.OpTrue}, {Op: api.OpTrue, Kids: []api.Formula{}}} {
		wantForm(t, formulas(), f, sealed("f\x01"))
	}
	for _, w := range []api.Word{{Loop: []uint16{5}}, {Stem: []uint16{}, Loop: []uint16{5}}} {
		wantForm(t, infinite(), w, sealed("w\x00\x01\x05"))
	}
	for _, m := range []api.Moore{{Next: [][]int{{0}}, Out: []api.Verdict{2}}, {Props: []string{}, Next: [][]int{{0}}, Out: []api.Verdict{2}}} {
		wantForm(t, machines(), m, sealed("m\x00\x01\x02\x00"))
	}
	for _, a := range []api.Buchi{{States: 1}, {Props: []string{}, States: 1, Init: []int{}, Edges: []api.Edge{}, Final: []int{}}} {
		wantForm(t, automata(), a, sealed("b\x00\x01\x00\x00\x00"))
	}
	for _, b := range [][]byte{nil, {}} {
		wantNone(t, formulas(), b, 0)
		wantNone(t, infinite(), b, 0)
		wantNone(t, machines(), b, 0)
		wantNone(t, automata(), b, 0)
	}
	wantRefused(t, infinite(), "empty lists", api.Word{Stem: []uint16{}, Loop: []uint16{}})
	wantRefused(t, machines(), "empty lists", api.Moore{Props: []string{}, Next: [][]int{}, Out: []api.Verdict{}})
}

// R4: calls know nothing of one another, at one time neither.
func TestAtOneTime(t *testing.T) {
	var all sync.WaitGroup
	for range 8 {
		all.Go(func() {
			for range 5 {
				wantAllForms(t, formulas(), someFormulas())
				wantAllForms(t, infinite(), someWords())
				wantAllForms(t, machines(), someMachines())
				wantAllForms(t, automata(), someAutomata())
				if _, err, at := codec.ReadFormula([]byte("f\x04")); err != api.ErrCodecForm || at != 2 {
					t.Errorf("%v, %d", err, at)
				}
			}
		})
	}
	all.Wait()
}

func wantAllForms[T any](t *testing.T, k kind[T], things []T) {
	for _, thing := range things {
		wantForm(t, k, thing, k.record(thing))
	}
}
