package runner_test

import (
	"iter"
	"math"
	"slices"
	"strconv"
	"strings"
	"testing"

	"augur/api"
	"augur/moore"
	"augur/runner"
)

// three is a machine that is right: it goes round with the letter 1, and stays with 0.
func three() api.Moore { return machine(1, st(3, 0, 1), st(1, 1, 2), st(2, 2, 0)) }

// still is a machine of one state over these names.
func still(names []string) api.Moore {
	return api.Moore{Props: names, Next: [][]int{make([]int, 1<<len(names))}, Out: []api.Verdict{3}}
}

// wrong are machines that are not right, each by one fault.
func wrong() map[string]api.Moore {
	list := map[string]api.Moore{"nothing": {}}
	spoil := func(who string, change func(*api.Moore)) {
		m := three()
		change(&m)
		list[who+", the fault "+strconv.Itoa(len(list))] = m // some faults are made at several places
	}
	spoil("no states", func(m *api.Moore) { m.Next, m.Out = nil, nil })
	spoil("no states, lists that are empty", func(m *api.Moore) { m.Next, m.Out = [][]int{}, []api.Verdict{} })
	spoil("no Next", func(m *api.Moore) { m.Next = nil })
	spoil("no Out", func(m *api.Moore) { m.Out = nil })
	spoil("one Out too few", func(m *api.Moore) { m.Out = m.Out[:2] })
	spoil("one Out too many", func(m *api.Moore) { m.Out = append(m.Out, 3) })
	spoil("one row too few", func(m *api.Moore) { m.Next = [][]int{{0, 1}, {1, 1}} })
	spoil("one row too many", func(m *api.Moore) { m.Next = append(m.Next, []int{0, 0}) })
	for i := range 3 {
		for _, out := range []api.Verdict{0, 4, 5, 128, 255} {
			spoil("no verdict", func(m *api.Moore) { m.Out[i] = out })
		}
		spoil("a row without numbers", func(m *api.Moore) { m.Next[i] = nil })
		spoil("a row with one number", func(m *api.Moore) { m.Next[i] = []int{0} })
		spoil("a row with three numbers", func(m *api.Moore) { m.Next[i] = []int{0, 0, 0} })
		spoil("a row for two names", func(m *api.Moore) { m.Next[i] = []int{0, 0, 0, 0} })
		for letter := range 2 {
			for _, state := range []int{-1, 3, 4, math.MaxInt, math.MinInt, 1 << 32, -1 << 32} {
				spoil("no state", func(m *api.Moore) { m.Next[i][letter] = state })
			}
		}
	}
	// As many numbers as there have to be in all, but not in each row.
	spoil("rows of unlike length", func(m *api.Moore) { m.Next = [][]int{{0, 0, 0}, {0}, {0, 0}} })
	spoil("no name", func(m *api.Moore) { m.Props = nil })
	spoil("a name too many", func(m *api.Moore) { m.Props = []string{"p", "q"} })
	for _, name := range []string{"", strings.Repeat("n", 33), `"`, `\`, "a\"b", "a\\", "\x1f", "\x7f", "a\x00", "\x80", "é", "a\n"} {
		spoil("the name "+name, func(m *api.Moore) { m.Props = []string{name} })
	}
	list["nine names"] = still(append(names8(), "i"))
	list["names without end"] = api.Moore{Props: make([]string, 100), Next: [][]int{{0}}, Out: []api.Verdict{3}}
	list["two names alike"] = still([]string{"a", "b", "a"})
	list["the last of eight wrong"] = still(append(names8()[:7:7], ""))
	return list
}

// New, Run and All refuse all of these, whatever else they are handed, and tell nothing beside that; letters are not asked.
func TestWrong(t *testing.T) {
	s := &source{letters: []uint16{0}}
	for who, m := range wrong() {
		if moore.Check(m) != api.ErrMooreForm {
			t.Fatalf("%s: it is right", who)
		}
		if r, err := runner.New(m); r != nil || err != api.ErrRunnerForm {
			t.Errorf("%s: New(%+v): %v, %v", who, m, r, err)
		}
		for _, events := range [][][]string{nil, {nil}, {{"a"}, {}, {"zz", "a"}}} {
			if l, err := runner.Run(m, events...); len(l) != 0 || err != api.ErrRunnerForm {
				t.Errorf("%s: Run(%+v, %q): %v, %v", who, m, events, l, err)
			}
		}
		refused := func(yield func(uint16) bool) { t.Errorf("%s: letters are asked", who) }
		for _, letters := range []iter.Seq[uint16]{s.all(), refused, nil} {
			all := runner.All(m, letters)
			if all == nil {
				t.Fatalf("%s: there is nothing to range over", who)
			}
			wantAll(t, all)
		}
	}
	if s.ranges != 0 {
		t.Errorf("letters are asked: %+v", s)
	}
}

// What is not taken when All is called is not taken any more, though it be mended; and what was taken stays so.
func TestMended(t *testing.T) {
	m := three()
	m.Out[1] = 0
	s := &source{letters: []uint16{1}}
	all := runner.All(m, s.all())
	m.Out[1] = 1
	wantAll(t, all)
	all = runner.All(m, slices.Values([]uint16{1, 1, 1}))
	m.Out[1], m.Next[0][1] = 0, 77
	wantAll(t, all, 1, 2, 3)
	if s.ranges != 0 {
		t.Errorf("letters are asked: %+v", s)
	}
}

// What is right, at the edges: names as long and as many as they may be, and all bytes of which they may be; states that are not reached.
func TestRight(t *testing.T) {
	for _, m := range []api.Moore{three(), still(nil), still([]string{}), still(names8()), still([]string{" ", "~", "!", "#", "[", "]"}), still([]string{strings.Repeat("n", 32), strings.Repeat("n", 31)}), machine(0, st(1, 0), st(2, 2), st(3, 2))} {
		wantAt(t, running(t, m), m, 0)
		wantRun(t, m, []api.Verdict{m.Out[0], m.Out[0]}, nil, nil)
		wantAll(t, runner.All(m, slices.Values([]uint16{0, 0})), m.Out[0], m.Out[0])
	}
}
