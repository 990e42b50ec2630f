package moore_test

import (
	"math"
	"slices"
	"strconv"
	"strings"
	"testing"

	"augur/api"
	"augur/moore"
)

// three is a machine that is right: Next goes round with the letter 1, and stays with 0.
func three() api.Moore { return machine(1, st(3, 0, 1), st(1, 1, 2), st(2, 2, 0)) }

// wide is a machine of one state over these names.
func wide(names []string) api.Moore {
	return api.Moore{Props: names, Next: [][]int{make([]int, 1<<len(names))}, Out: []api.Verdict{3}}
}

// wrong are machines that are not right, each by one fault.
func wrong() map[string]api.Moore {
	list := map[string]api.Moore{"nothing": {}}
	spoil := func(who string, change func(*api.Moore)) {
		m := three()
		change(&m)
		list[who+", the fault "+strconv.Itoa(len(list))] = m // some faults are made at several places
	}
	spoil("no states", func(m *api.Moore) { m.Next, m.Out = nil, nil })
	spoil("no states, lists that are empty", func(m *api.Moore) { m.Next, m.Out = [][]int{}, []api.Verdict{} })
	spoil("no Next", func(m *api.Moore) { m.Next = nil })
	spoil("no Out", func(m *api.Moore) { m.Out = nil })
	spoil("one Out too few", func(m *api.Moore) { m.Out = m.Out[:2] })
	spoil("one Out too many", func(m *api.Moore) { m.Out = append(m.Out, 3) })
	spoil("one row too few", func(m *api.Moore) { m.Next = [][]int{{0, 1}, {1, 1}} })
	spoil("one row too many", func(m *api.Moore) { m.Next = append(m.Next, []int{0, 0}) })
	for i := range 3 {
		for _, out := range []api.Verdict{0, 4, 5, 128, 255} {
			spoil("no verdict", func(m *api.Moore) { m.Out[i] = out })
		}
		spoil("a row without numbers", func(m *api.Moore) { m.Next[i] = nil })
		spoil("a row with one number", func(m *api.Moore) { m.Next[i] = []int{0} })
		spoil("a row with three numbers", func(m *api.Moore) { m.Next[i] = []int{0, 0, 0} })
		spoil("a row for two names", func(m *api.Moore) { m.Next[i] = []int{0, 0, 0, 0} })
		for letter := range 2 {
			for _, state := range []int{-1, 3, 4, math.MaxInt, math.MinInt, 1 << 32, -1 << 32} {
				spoil("no state", func(m *api.Moore) { m.Next[i][letter] = state })
			}
		}
	}
	spoil("no name", func(m *api.Moore) { m.Props = nil })
	spoil("a name too many", func(m *api.Moore) { m.Props = []string{"p", "q"} })
	for _, name := range []string{"", strings.Repeat("n", 33), `"`, `\`, "a\"b", "a\\", "\x1f", "\x7f", "a\x00", "\x80", "é", "a\n"} {
		spoil("the name "+name, func(m *api.Moore) { m.Props = []string{name} })
	}
	list["nine names"] = wide(append(names8(), "i"))
	list["names without end"] = api.Moore{Props: make([]string, 100), Next: [][]int{{0}}, Out: []api.Verdict{3}}
	list["two names alike"] = wide([]string{"a", "b", "a"})
	list["the last of eight wrong"] = wide(append(names8()[:7:7], ""))
	return list
}

// All calls refuse all of these, whatever else they are handed, and tell nothing beside that.
func TestWrong(t *testing.T) {
	for who, m := range wrong() {
		if err := moore.Check(m); err != api.ErrMooreForm {
			t.Errorf("%s: Check(%+v): %v", who, m, err)
		}
		if got, err := moore.Reach(m); err != api.ErrMooreForm || !isZero(got) {
			t.Errorf("%s: Reach(%+v): %+v, %v", who, m, got, err)
		}
		if got, err := moore.Least(m); err != api.ErrMooreForm || !isZero(got) {
			t.Errorf("%s: Least(%+v): %+v, %v", who, m, got, err)
		}
		if is, err := moore.Trap(m); err != api.ErrMooreForm || is {
			t.Errorf("%s: Trap(%+v): %v, %v", who, m, is, err)
		}
		for _, u := range [][]uint16{nil, {0}, {1, 0, 1}, {2}, {65535}, {0, 65535}} {
			wantRunRefused(t, m, api.ErrMooreForm, u...)
		}
		for _, other := range []api.Moore{three(), m, {}, wide(names8())} {
			for _, two := range [][2]api.Moore{{m, other}, {other, m}} {
				if is, err := moore.Same(two[0], two[1]); err != api.ErrMooreForm || is {
					t.Errorf("%s: Same(%+v): %v, %v", who, two, is, err)
				}
			}
		}
		for _, s := range []int{0, 1, 2, 3, -1, math.MaxInt, math.MinInt} {
			if u, is, err := moore.Apart(m, s, 0); err != api.ErrMooreForm || is || len(u) > 0 {
				t.Errorf("%s: Apart(%+v, %d, 0): %v, %v, %v", who, m, s, u, is, err)
			}
		}
	}
}

// What is right, at the edges: names as long and as many as they may be, and all bytes of which they may be.
func TestRight(t *testing.T) {
	right := []api.Moore{three(), wide(nil), wide([]string{}), wide(names8()), wide([]string{" ", "~", "!", "#", "[", "]"}), wide([]string{strings.Repeat("n", 32), strings.Repeat("n", 31)})}
	// States need not be reached.
	right = append(right, machine(0, st(1, 0), st(2, 2), st(3, 2)))
	d := draw(1)
	for props := range 9 {
		for range 30 {
			right = append(right, d.machine(6, props))
		}
	}
	for _, m := range right {
		if err := moore.Check(m); err != api.OK {
			t.Errorf("Check(%+v): %v", m, err)
		}
		wantRun(t, m, 0)
		wantSame(t, m, m, true)
	}
}

// Letters are those below 2^k; one that is none is refused wherever it stands.
func TestLetters(t *testing.T) {
	for props := range 9 {
		m := wide(names8()[:props])
		last := uint16(1)<<props - 1
		wantRun(t, m, 0, last)
		wantRun(t, m, 0, 0, last, 0)
		for _, none := range []uint16{last + 1, last + 2, 256, 257, 32768, 65535} {
			for _, u := range [][]uint16{{none}, {none, 0}, {0, none}, {0, last, none, 0, 0}, {none, none}} {
				wantRunRefused(t, m, api.ErrArg, u...)
			}
		}
	}
}

// The state behind u, letter by letter; and from that on what comes behind v.
func TestRun(t *testing.T) {
	wantRun(t, three(), 0)
	wantRun(t, three(), 1, 0, 1)
	wantRun(t, three(), 2, 1, 0, 1, 0)
	wantRun(t, three(), 0, 1, 1, 0, 1)
	d := draw(2)
	for range 3000 {
		props := d.below(4)
		m := d.machine(8, props)
		u, v := d.row(props, d.below(8)), d.row(props, d.below(8))
		middle := behind(m, 0, u)
		wantRun(t, m, middle, u...)
		wantRun(t, m, behind(m, middle, v), slices.Concat(u, v)...)
	}
}

// Each state that says 1 or 2 stays with it, by each letter, be it reached or not.
func TestTrap(t *testing.T) {
	for _, out := range []api.Verdict{1, 2} {
		other := 3 - out
		wantTrap(t, machine(0, st(out, 0)), true)
		wantTrap(t, machine(1, st(3, 0, 1), st(out, 1, 1)), true)
		wantTrap(t, machine(1, st(3, 0, 1), st(out, 1, 0)), false)
		wantTrap(t, machine(1, st(3, 0, 1), st(out, 0, 1)), false)
		wantTrap(t, machine(1, st(3, 0, 1), st(out, 2, 1), st(out, 2, 1)), true) // to another one that says the same
		wantTrap(t, machine(1, st(3, 0, 1), st(out, 2, 1), st(other, 2, 2)), false)
		wantTrap(t, machine(1, st(3, 0, 0), st(out, 0, 0)), false) // it is not reached
		wantTrap(t, machine(1, st(3, 0, 0), st(out, 1, 1)), true)
	}
	wantTrap(t, machine(1, st(3, 1, 2), st(3, 0, 2), st(3, 1, 1)), true)
	wantTrap(t, machine(1, st(1, 0, 1), st(3, 1, 0)), false)
	d := draw(3)
	var so, not int
	for range 5000 {
		m := d.machine(3, d.below(3))
		want := true
		for s, row := range m.Next {
			for _, to := range row {
				want = want && (m.Out[s] == 3 || m.Out[to] == m.Out[s])
			}
		}
		wantTrap(t, m, want)
		if want {
			so++
		} else {
			not++
		}
	}
	if so < 500 || not < 500 {
		t.Errorf("%d traps, %d others", so, not)
	}
}
