package dfa_test

import (
	"math"
	"slices"
	"strconv"
	"strings"
	"testing"

	"augur/api"
	"augur/dfa"
)

// three is a DFA that is right: Next goes round with the letter 1, and stays with 0.
func three() api.DFA {
	return api.DFA{Props: []string{"p"}, Next: [][]int{{0, 1}, {1, 2}, {2, 0}}, Live: []bool{true, false, true}}
}

// wrong are DFAs that are not right, each by one fault.
func wrong() map[string]api.DFA {
	list := map[string]api.DFA{"nothing": {}}
	spoil := func(who string, change func(*api.DFA)) {
		d := three()
		change(&d)
		list[who+", the fault "+strconv.Itoa(len(list))] = d // some faults are made at several places
	}
	spoil("no states", func(d *api.DFA) { d.Next, d.Live = nil, nil })
	spoil("no states, lists that are empty", func(d *api.DFA) { d.Next, d.Live = [][]int{}, []bool{} })
	spoil("no Next", func(d *api.DFA) { d.Next = nil })
	spoil("no Live", func(d *api.DFA) { d.Live = nil })
	spoil("one Live too few", func(d *api.DFA) { d.Live = d.Live[:2] })
	spoil("one Live too many", func(d *api.DFA) { d.Live = append(d.Live, true) })
	spoil("one row too few", func(d *api.DFA) { d.Next = [][]int{{0, 1}, {1, 1}} })
	spoil("one row too many", func(d *api.DFA) { d.Next = append(d.Next, []int{0, 0}) })
	for i := range 3 {
		spoil("a row without numbers", func(d *api.DFA) { d.Next[i] = nil })
		spoil("a row with one number", func(d *api.DFA) { d.Next[i] = []int{0} })
		spoil("a row with three numbers", func(d *api.DFA) { d.Next[i] = []int{0, 0, 0} })
		spoil("a row for two names", func(d *api.DFA) { d.Next[i] = []int{0, 0, 0, 0} })
		for letter := range 2 {
			for _, state := range []int{-1, 3, 4, math.MaxInt, math.MinInt, 1 << 32, -1 << 32} {
				spoil("no state", func(d *api.DFA) { d.Next[i][letter] = state })
			}
		}
	}
	spoil("no name", func(d *api.DFA) { d.Props = nil })
	spoil("a name too many", func(d *api.DFA) { d.Props = []string{"p", "q"} })
	for _, name := range []string{"", strings.Repeat("n", 33), `"`, `\`, "a\"b", "a\\", "\x1f", "\x7f", "a\x00", "\x80", "é", "a\n"} {
		spoil("the name "+name, func(d *api.DFA) { d.Props = []string{name} })
	}
	return list
}

// wide is a DFA of one state over these names.
func wide(names []string) api.DFA {
	return api.DFA{Props: names, Next: [][]int{make([]int, 1<<len(names))}, Live: []bool{true}}
}

// Check, Run and Has refuse all of these, whatever letters there are.
func TestWrong(t *testing.T) {
	list := wrong()
	nine := append(names8(), "i")
	list["nine names"] = wide(nine)
	list["names without end"] = api.DFA{Props: make([]string, 100), Next: [][]int{{0}}, Live: []bool{true}}
	list["two names alike"] = wide([]string{"a", "b", "a"})
	list["the last two alike"] = wide([]string{"a", "b", "b"})
	list["the last of eight wrong"] = wide(append(names8()[:7:7], ""))
	for who, d := range list {
		if err := dfa.Check(d); err != api.ErrDFAForm {
			t.Errorf("%s: Check(%+v): %v", who, d, err)
		}
		for _, u := range [][]uint16{nil, {0}, {1, 0, 1}, {2}, {65535}, {0, 65535}} {
			wantRefused(t, d, api.ErrDFAForm, u...)
		}
	}
}

// What is right, at the edges: names as long and as many as they may be, and all bytes of which they may be.
func TestRight(t *testing.T) {
	right := []api.DFA{three(), wide(nil), wide([]string{}), wide(names8()), wide([]string{" ", "~", "!", "#", "[", "]"}), wide([]string{strings.Repeat("n", 32), strings.Repeat("n", 31)})}
	// States need not be reached, and Live may say anything.
	right = append(right, api.DFA{Next: [][]int{{0}, {2}, {2}}, Live: []bool{false, true, false}})
	d := draw(1)
	for props := range 9 {
		for range 30 {
			right = append(right, d.dfa(6, props))
		}
	}
	for _, d := range right {
		if err := dfa.Check(d); err != api.OK {
			t.Errorf("Check(%+v): %v", d, err)
		}
		wantRun(t, d, 0)
	}
}

// Letters are those below 2^k; one that is none is refused wherever it stands.
func TestLetters(t *testing.T) {
	for props := range 9 {
		d := wide(names8()[:props])
		last := uint16(1)<<props - 1
		wantRun(t, d, 0, last)
		wantRun(t, d, 0, 0, last, 0)
		for _, none := range []uint16{last + 1, last + 2, 256, 257, 32768, 65535} {
			for _, u := range [][]uint16{{none}, {none, 0}, {0, none}, {0, last, none, 0, 0}, {none, none}} {
				wantRefused(t, d, api.ErrArg, u...)
			}
		}
	}
}

// The state behind u, letter by letter; and from that on what comes behind v.
func TestRunGoesOn(t *testing.T) {
	wantRun(t, three(), 0)
	wantRun(t, three(), 1, 0, 1)
	wantRun(t, three(), 2, 1, 0, 1, 0)
	wantRun(t, three(), 0, 1, 1, 0, 1)
	d := draw(2)
	for range 3000 {
		props := d.below(4)
		x := d.dfa(8, props)
		u, v := d.row(props, d.below(8)), d.row(props, d.below(8))
		middle, err := dfa.Run(x, u...)
		if err != api.OK {
			t.Fatal(err)
		}
		wantRun(t, x, middle, u...)
		state := 0
		for _, letter := range u {
			state = x.Next[state][letter]
		}
		if state != middle {
			t.Fatalf("Run(%+v, %v): %d, want %d", x, u, middle, state)
		}
		for _, letter := range v {
			state = x.Next[state][letter]
		}
		wantRun(t, x, state, slices.Concat(u, v)...)
	}
}
