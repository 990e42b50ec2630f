package runner_test

import (
	"math"
	"slices"
	"strings"
	"testing"

	"augur/api"
	"augur/runner"
)

// Each name its own bit, over lists of 0 to 8 names, in whatever order they stand; whatever others are let by; one twice is as once.
func TestLetter(t *testing.T) {
	for props := range 9 {
		list := names8()[:props]
		slices.Reverse(list)
		m := wide(list)
		r := running(t, m)
		if r.Letter() != 0 {
			t.Errorf("%q: nothing is %d", list, r.Letter())
		}
		for set := range 1 << props {
			var names []string
			for i, name := range list {
				if set>>i&1 == 1 {
					names = append(names, name)
				}
			}
			for _, asked := range [][]string{names, slices.Concat(names, names), slices.Concat([]string{"zz", ""}, names, []string{"A"})} {
				if got := r.Letter(asked...); got != uint16(set) {
					t.Fatalf("over %q: Letter(%q): %d, want %d", list, asked, got, set)
				}
			}
			slices.Reverse(names)
			if got := r.Letter(names...); got != uint16(set) {
				t.Fatalf("over %q: Letter(%q): %d, want %d", list, names, got, set)
			}
		}
	}
}

// Names are told byte by byte; odd ones too.
func TestOddNames(t *testing.T) {
	long := strings.Repeat("n", 32)
	r := running(t, wide([]string{"a", "A", "a ", " ", long, long[1:], "true", "!"}))
	for i, name := range []string{"a", "A", "a ", " ", long, long[1:], "true", "!"} {
		if got := r.Letter(name); got != 1<<i {
			t.Errorf("Letter(%q): %d", name, got)
		}
	}
	for _, name := range []string{"", "  ", " a", "aa", long + "n", long[2:], "\"a\"", "a\x00", "\xff", "TRUE", strings.Repeat("a", 100000)} {
		if got := r.Letter(name); got != 0 {
			t.Errorf("Letter(%.40q): %d", name, got)
		}
	}
	if got := r.Letter(append(slices.Repeat([]string{"x", "A"}, 100000), "!")...); got != 130 {
		t.Errorf("of many: %d", got)
	}
}

// Letter asks for no state, and changes none.
func TestLetterAtEachState(t *testing.T) {
	m := until()
	r := running(t, m)
	for s := range m.Next {
		if err := r.Goto(s); err != api.OK {
			t.Fatal(err)
		}
		if r.Letter("b", "x") != 2 || r.Letter() != 0 || r.Letter("a", "b") != 3 {
			t.Errorf("at %d: another letter", s)
		}
		wantAt(t, r, m, s)
	}
}

// wide is a machine over these names that is at the state of the letter that came last.
func wide(names []string) api.Moore {
	var m api.Moore
	m.Props = names
	for s := range 1 << len(names) {
		row := make([]int, 1<<len(names))
		for letter := range row {
			row[letter] = letter
		}
		m.Next = append(m.Next, row)
		m.Out = append(m.Out, api.Verdict(1+s%3))
	}
	return m
}

// Of all letters that there are, over lists of 0 to 8 names: the bits of Props alone count.
func TestBitsThatCount(t *testing.T) {
	for props := range 9 {
		m := wide(names8()[:props])
		r := running(t, m)
		for letter := range 65536 {
			want := letter % (1 << props)
			if v := r.Step(uint16(letter)); v != m.Out[want] || r.State() != want || r.Verdict() != v {
				t.Fatalf("over %d names, by %d: %d, at %d", props, letter, v, r.State())
			}
		}
	}
}

// allMachines are all of so many states over so many names.
func allMachines(states, props int) []api.Moore {
	count := 1
	for range states << props {
		count *= states
	}
	for range states {
		count *= 3
	}
	list := make([]api.Moore, count)
	for i := range list {
		left := i
		digit := func(base int) int {
			rest := left % base
			left /= base
			return rest
		}
		m := api.Moore{Props: names8()[:props]}
		for range states {
			row := make([]int, 1<<props)
			for letter := range row {
				row[letter] = digit(states)
			}
			m.Next = append(m.Next, row)
			m.Out = append(m.Out, api.Verdict(1+digit(3)))
		}
		list[i] = m
	}
	return list
}

// All machines of at most three states over one name, of four over none, of two over two: from each state, by each letter.
func TestAllSmall(t *testing.T) {
	for _, c := range []struct{ states, props int }{{1, 0}, {2, 0}, {3, 0}, {4, 0}, {1, 1}, {2, 1}, {3, 1}, {1, 2}, {2, 2}} {
		for _, m := range allMachines(c.states, c.props) {
			r := running(t, m)
			wantAt(t, r, m, 0)
			for s := range m.Next {
				for letter := range uint16(1) << (c.props + 1) {
					if err := r.Goto(s); err != api.OK {
						t.Fatal(err)
					}
					wantAt(t, r, m, s)
					to := behind(m, s, letter)
					if v := r.Step(letter); v != m.Out[to] {
						t.Fatalf("%+v: from %d by %d: %d", m, s, letter, v)
					}
					wantAt(t, r, m, to)
				}
			}
			r.Reset()
			wantAt(t, r, m, 0)
		}
	}
}

// Long ways through drawn machines: steps, events, resets, and states that are gone to, in whatever order.
func TestWays(t *testing.T) {
	d := draw(1)
	for range 1500 {
		m := d.machine(9, d.below(5))
		r := running(t, m)
		at := 0
		for range 30 {
			var v api.Verdict
			switch d.below(8) {
			case 0:
				r.Reset()
				at, v = 0, r.Verdict()
			case 1:
				at = d.below(len(m.Next))
				if err := r.Goto(at); err != api.OK {
					t.Fatalf("%+v: Goto(%d): %v", m, at, err)
				}
				v = r.Verdict()
			case 2, 3, 4:
				names := d.events(1)[0]
				at = behind(m, at, letterOf(m.Props, names))
				v = r.Event(names...)
			default:
				letter := d.letters(1)[0]
				at = behind(m, at, letter)
				v = r.Step(letter)
			}
			if v != m.Out[at] {
				t.Fatalf("%+v: %d, want %d", m, v, m.Out[at])
			}
			wantAt(t, r, m, at)
		}
	}
}

// What is no state is refused, and changes nothing.
func TestGoto(t *testing.T) {
	for _, m := range []api.Moore{always(), until(), wide(nil), wide(names8()), machine(0, st(3, 1), st(2, 0))} {
		n := len(m.Next)
		r := running(t, m)
		for _, at := range []int{n - 1, 0} {
			if err := r.Goto(at); err != api.OK {
				t.Fatal(err)
			}
			for _, none := range []int{-1, -2, n, n + 1, 256, 65536, math.MaxInt, math.MinInt, 1 << 32, -1 << 32, 1<<63 - 1<<32} {
				if none >= 0 && none < n {
					continue
				}
				if err := r.Goto(none); err != api.ErrRunnerState {
					t.Errorf("%+v: Goto(%d): %v", m, none, err)
				}
				if r.State() != at || r.Verdict() != m.Out[at] {
					t.Fatalf("%+v: at %d behind Goto(%d)", m, r.State(), none)
				}
			}
		}
	}
}

// Of states that no row of letters leads to: one can go there, and on from there.
func TestNotReached(t *testing.T) {
	m := machine(1, st(3, 0, 0), st(1, 2, 1), st(2, 0, 1))
	r := running(t, m)
	for _, s := range []int{1, 2, 1, 0, 2} {
		if err := r.Goto(s); err != api.OK {
			t.Fatal(err)
		}
		wantAt(t, r, m, s)
	}
	if v := r.Step(1); v != 1 || r.State() != 1 {
		t.Errorf("%d, at %d", v, r.State())
	}
	if v := r.Event(); v != 2 || r.State() != 2 {
		t.Errorf("%d, at %d", v, r.State())
	}
}

// Event is Step of Letter; Goto of State changes nothing; runners at one state say the same from there on.
func TestTheorem(t *testing.T) {
	d := draw(2)
	for range 500 {
		m := d.machine(8, d.below(5))
		r, twin, other := running(t, m), running(t, m), running(t, m)
		for _, names := range d.events(12) {
			letter := twin.Letter(names...)
			if v := r.Event(names...); v != twin.Step(letter) || r.State() != twin.State() {
				t.Fatalf("%+v: Event(%q): %d, at %d; Step(%d): at %d", m, names, v, r.State(), letter, twin.State())
			}
			at := r.State()
			if err := r.Goto(at); err != api.OK || r.State() != at || r.Verdict() != m.Out[at] {
				t.Fatalf("%+v: Goto of State %d", m, at)
			}
			if err := other.Goto(at); err != api.OK {
				t.Fatal(err)
			}
			wantSame(t, m, other, r, d.letters(5))
			if err := r.Goto(at); err != api.OK {
				t.Fatal(err)
			}
		}
	}
}

// wantSame wants two runners at one state to say the same, all along.
func wantSame(t *testing.T, m api.Moore, one, other *runner.Runner, u []uint16) {
	t.Helper()
	for _, letter := range u {
		if one.State() != other.State() || one.Verdict() != other.Verdict() || one.Final() != other.Final() || one.Step(letter) != other.Step(letter) {
			t.Fatalf("%+v: at %d and at %d by %d", m, one.State(), other.State(), letter)
		}
	}
}
