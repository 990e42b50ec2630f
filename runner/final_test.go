package runner_test

import (
	"testing"

	"augur/api"
)

// finals are, state by state, whether a runner tells that what is said stays so.
func finals(t *testing.T, m api.Moore) []bool {
	t.Helper()
	r := running(t, m)
	list := make([]bool, len(m.Next))
	for s := range list {
		if err := r.Goto(s); err != api.OK {
			t.Fatal(err)
		}
		list[s] = r.Final()
		if r.State() != s {
			t.Fatalf("%+v: at %d behind Final", m, r.State())
		}
	}
	return list
}

func wantFinals(t *testing.T, m api.Moore, want ...bool) {
	t.Helper()
	got := finals(t, m)
	for s, is := range want {
		if got[s] != is {
			t.Errorf("%+v: final: %v, want %v", m, got, want)
			return
		}
	}
}

// Final, be it of states that say inconclusive, too: what counts is whether it stays so.
func TestFinal(t *testing.T) {
	for _, v := range []api.Verdict{1, 2, 3} {
		for _, w := range []api.Verdict{1, 2, 3} {
			same := v == w
			wantFinals(t, machine(0, st(v, 0)), true)
			wantFinals(t, machine(1, st(v, 0, 1), st(w, 1, 1)), same, true)
			wantFinals(t, machine(1, st(v, 1, 0), st(w, 1, 1)), same, true)
			wantFinals(t, machine(0, st(v, 1), st(w, 0)), same, same)
			wantFinals(t, machine(0, st(v, 1), st(v, 2), st(w, 2)), same, same, true)
			wantFinals(t, machine(0, st(v, 1), st(v, 2), st(w, 0)), same, same, same)
			// One comes away from what it says, and back to it.
			wantFinals(t, machine(0, st(v, 1), st(w, 2), st(v, 2)), same, same, true)
			// Of states that are not reached from the first one, too.
			wantFinals(t, machine(1, st(v, 0, 0), st(v, 0, 2), st(w, 0, 0)), true, same, same)
		}
	}
	// Two ends that say unlike things: before them nothing is final, though each way ends at what is.
	wantFinals(t, machine(1, st(3, 1, 2), st(1, 1, 1), st(2, 2, 2)), false, true, true)
	wantFinals(t, machine(1, st(1, 1, 2), st(1, 1, 1), st(2, 2, 2)), false, true, true)
	// By the last letter alone.
	m := wideStill(3)
	m.Next[0][7] = 1
	wantFinals(t, m, false, true)
	m.Out[1] = 3
	wantFinals(t, m, true, true)
}

// wideStill is a machine of two states over so many names; each stays where it is.
func wideStill(props int) api.Moore {
	m := api.Moore{Props: names8()[:props], Next: [][]int{make([]int, 1<<props), make([]int, 1<<props)}, Out: []api.Verdict{3, 1}}
	for letter := range m.Next[1] {
		m.Next[1][letter] = 1
	}
	return m
}

// By hand, of drawn machines.
func TestFinalByHand(t *testing.T) {
	d := draw(3)
	var so, not int
	for range 4000 {
		m := d.machine(12, d.below(4))
		for s, is := range finals(t, m) {
			if is != finalByHand(m, s) {
				t.Fatalf("%+v: %d is final: %v", m, s, is)
			}
			if is {
				so++
			} else {
				not++
			}
		}
	}
	if so < 2000 || not < 2000 {
		t.Errorf("%d are final, %d are not", so, not)
	}
}

// SURE IS SURE: where Final is so, no step changes the verdict, nor what Final tells; where it is not, some row of letters does: of fewer letters than states.
func TestSure(t *testing.T) {
	d := draw(4)
	for range 400 {
		m := d.machine(7, d.below(3))
		r := running(t, m)
		for s, final := range finals(t, m) {
			if final {
				for letter := range m.Next[s] {
					if err := r.Goto(s); err != api.OK {
						t.Fatal(err)
					}
					if v := r.Step(uint16(letter)); v != m.Out[s] || !r.Final() {
						t.Fatalf("%+v: from %d by %d: %d", m, s, letter, v)
					}
				}
			} else if !changes(m, s, len(m.Next)-1) {
				t.Fatalf("%+v: nothing changes what %d says", m, s)
			}
		}
	}
}

// changes tells whether some row of at most so many letters leads to a state that says something else.
func changes(m api.Moore, state, longest int) bool {
	level := map[int]bool{state: true}
	for range longest {
		next := map[int]bool{}
		for s := range level {
			for _, to := range m.Next[s] {
				next[to] = true
			}
		}
		for s := range next {
			if m.Out[s] != m.Out[state] {
				return true
			}
		}
		level = next
	}
	return false
}
