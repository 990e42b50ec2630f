package moore_test

import (
	"slices"
	"sync"
	"testing"

	"augur/api"
	"augur/moore"
)

// memory notes which memory lists have, the room behind them with it. (By where each item is: pointers of one type are alike just if they point to one thing.)
type memory struct {
	t    *testing.T
	seen map[any]string
}

func note[T any](m memory, who string, list []T) {
	m.t.Helper()
	whole := list[:cap(list)]
	for i := range whole {
		at := any(&whole[i])
		if other, twice := m.seen[at]; twice {
			m.t.Fatalf("%s shares memory with %s", who, other)
		}
		m.seen[at] = who
	}
}

func (m memory) machine(who string, x api.Moore) {
	m.t.Helper()
	note(m, who+": Props", x.Props)
	note(m, who+": Next", x.Next)
	for _, row := range x.Next {
		note(m, who+": a row", row)
	}
	note(m, who+": Out", x.Out)
}

// spoil changes all of a list, and the room behind it.
func spoil[T any](list []T, with T) {
	whole := list[:cap(list)]
	for i := range whole {
		whole[i] = with
	}
}

func spoilMachine(m api.Moore) {
	for _, row := range m.Next {
		spoil(row, 99)
	}
	spoil(m.Props, "spoilt")
	spoil(m.Next, []int{99})
	spoil(m.Out, 99)
}

func spoilDFA(d api.DFA) {
	for _, row := range d.Next {
		spoil(row, 99)
	}
	spoil(d.Props, "spoilt")
	spoil(d.Next, []int{99})
	for i := range d.Live {
		d.Live[i] = !d.Live[i]
	}
}

// roomy is a list with something behind it.
func roomy[T any](list []T, room T) []T {
	return append(slices.Clip(slices.Clone(list)), room)[:len(list)]
}

// room is what stands behind a roomy list.
func room[T any](list []T) T { return list[:len(list)+1][len(list)] }

// roomyRows are roomy rows, with a row behind them.
func roomyRows(rows [][]int) [][]int {
	list := roomy(rows, []int{-7})
	for i, row := range rows {
		list[i] = roomy(row, -7)
	}
	return list
}

func keptRows(l, rows [][]int) bool {
	isSpoilt := func(row []int) bool { return room(row) != -7 }
	return slices.EqualFunc(l, rows, slices.Equal) && slices.Equal(room(l), []int{-7}) && !slices.ContainsFunc(l, isSpoilt)
}

// lent is a copy with something behind each list; kept tells whether all of that is as it was.
func lent(m api.Moore) api.Moore {
	return api.Moore{Props: roomy(m.Props, "room"), Next: roomyRows(m.Next), Out: roomy(m.Out, 7)}
}

func kept(l, m api.Moore) bool {
	return same(l, m) && keptRows(l.Next, m.Next) && room(l.Props) == "room" && room(l.Out) == 7
}

// lentDFA and keptDFA likewise.
func lentDFA(d api.DFA) api.DFA {
	return api.DFA{Props: roomy(d.Props, "room"), Next: roomyRows(d.Next), Live: roomy(d.Live, true)}
}

func keptDFA(l, d api.DFA) bool {
	return slices.Equal(l.Props, d.Props) && slices.Equal(l.Live, d.Live) && keptRows(l.Next, d.Next) && room(l.Props) == "room" && room(l.Live)
}

// R2 of Reach and Least: what is handed in stays as it is, with the room behind it; nothing of it is kept; what comes out is the asker's own, lists within lists, too.
func TestOwn(t *testing.T) {
	d := draw(14)
	for range 400 {
		m := d.machine(8, d.below(4))
		for who, c := range map[string]struct {
			call func(api.Moore) (api.Moore, api.Errno)
			want api.Moore
		}{"Reach": {moore.Reach, reachByHand(m)}, "Least": {moore.Least, leastByHand(m)}} {
			x := lent(m)
			all := memory{t, map[any]string{}}
			all.machine("what is lent", x)
			for range 3 {
				got, err := c.call(x)
				wantMachine(t, who, got, err, c.want)
				if !kept(x, m) {
					t.Fatalf("%s: %+v is not as it was: %+v", who, m, x)
				}
				all.machine(who, got)
				spoilMachine(got)
			}
			keep, err := c.call(x)
			spoilMachine(x)
			wantMachine(t, who, keep, err, c.want)
		}
	}
}

// R2 of Product; one automaton may be handed in twice.
func TestOwnProduct(t *testing.T) {
	d := draw(15)
	for range 400 {
		props := d.below(4)
		can, fail := d.dfa(5, props, 6), d.dfa(5, props, 5)
		want, _ := productByHand(can, fail)
		x, y := lentDFA(can), lentDFA(fail)
		all := memory{t, map[any]string{}}
		note(all, "what is lent", x.Props)
		note(all, "what is lent", y.Props)
		for range 3 {
			got, err := moore.Product(x, y)
			wantMachine(t, "Product", got, err, want)
			if !keptDFA(x, can) || !keptDFA(y, fail) {
				t.Fatalf("%+v, %+v are not as they were: %+v, %+v", can, fail, x, y)
			}
			all.machine("a machine", got)
			spoilMachine(got)
		}
		wantProduct(t, x, x)
		keep, err := moore.Product(x, y)
		spoilDFA(x)
		spoilDFA(y)
		wantMachine(t, "Product", keep, err, want)
	}
}

// R2 of Check, Run, Same, Apart and Trap.
func TestOwnTells(t *testing.T) {
	d := draw(16)
	for range 400 {
		props := 1 + d.below(2)
		m, n := d.machine(5, props), d.machine(5, props)
		u := d.row(props, d.below(6))
		x, y, v := lent(m), lent(n), roomy(u, 7)
		all := memory{t, map[any]string{}}
		for range 3 {
			wantRun(t, x, behind(m, 0, u), v...)
			_, err := moore.Same(x, y)
			_, err2 := moore.Trap(x)
			row, _, err3 := moore.Apart(x, len(m.Next)-1, 0)
			if err != api.OK || err2 != api.OK || err3 != api.OK || moore.Check(x) != api.OK {
				t.Fatal(err, err2, err3)
			}
			if !kept(x, m) || !kept(y, n) || !slices.Equal(u, v) || room(v) != 7 {
				t.Fatalf("%+v, %+v, %v are not as they were: %+v, %+v, %v", m, n, u, x, y, v)
			}
			want, _ := apartByHand(m, len(m.Next)-1, 0)
			if !slices.Equal(row, want) {
				t.Fatalf("%+v: %v, want %v", m, row, want)
			}
			note(all, "a row", row)
			spoil(row, 99)
		}
		wantSame(t, x, x, true)
	}
}

// R6: a list that is nil and one that is empty are the same.
func TestNilAndEmpty(t *testing.T) {
	for _, names := range [][]string{nil, {}} {
		m := api.Moore{Props: names, Next: [][]int{{1}, {0}}, Out: []api.Verdict{3, 3}}
		for _, u := range [][]uint16{nil, {}} {
			wantRun(t, m, 0, u...)
		}
		wantLeast(t, m, machine(0, st(3, 0)))
		wantReach(t, m, machine(0, st(3, 1), st(3, 0)))
		wantSame(t, m, machine(0, st(3, 0)), true)
		wantApart(t, m, 0, 1, nil, false)
	}
	can := api.DFA{Next: [][]int{{0}}, Live: []bool{true}}
	fail := api.DFA{Props: []string{}, Next: [][]int{{0}}, Live: []bool{false}}
	m, err := moore.Product(can, fail)
	wantMachine(t, "Product", m, err, machine(0, st(1, 0)))
	m, err = moore.Product(fail, can)
	wantMachine(t, "Product", m, err, machine(0, st(2, 0)))
}

// Machines and automata are lent to several at one time.
func TestAtOneTime(t *testing.T) {
	d := draw(17)
	m := shuffled(&d, d.late(60, 2))
	least := leastByHand(m)
	can, fail := d.dfa(9, 2, 6), d.dfa(9, 2, 5)
	product, _ := productByHand(can, fail)
	row, _ := apartByPairs(m, 0, 1)
	var all sync.WaitGroup
	for range 8 {
		all.Go(func() {
			for range 30 {
				l, err := moore.Least(m)
				p, err2 := moore.Product(can, fail)
				u, _, err3 := moore.Apart(m, 0, 1)
				is, err4 := moore.Same(m, l)
				if err != api.OK || err2 != api.OK || err3 != api.OK || err4 != api.OK || !same(l, least) || !same(p, product) || !slices.Equal(u, row) || !is {
					t.Errorf("%+v, %+v, %v, %v", l, p, u, is)
				}
			}
		})
	}
	all.Wait()
}
