package runner_test

import (
	"iter"
	"slices"
	"strings"
	"testing"

	"augur/api"
	"augur/runner"
)

// The calls as the chapter lists them.
var (
	_ func(api.Moore) (*runner.Runner, api.Errno)             = runner.New
	_ func(*runner.Runner, ...string) uint16                  = (*runner.Runner).Letter
	_ func(*runner.Runner, uint16) api.Verdict                = (*runner.Runner).Step
	_ func(*runner.Runner, ...string) api.Verdict             = (*runner.Runner).Event
	_ func(*runner.Runner) api.Verdict                        = (*runner.Runner).Verdict
	_ func(*runner.Runner) int                                = (*runner.Runner).State
	_ func(*runner.Runner)                                    = (*runner.Runner).Reset
	_ func(*runner.Runner, int) api.Errno                     = (*runner.Runner).Goto
	_ func(*runner.Runner) bool                               = (*runner.Runner).Final
	_ func(api.Moore, ...[]string) ([]api.Verdict, api.Errno) = runner.Run
	_ func(api.Moore, iter.Seq[uint16]) iter.Seq[api.Verdict] = runner.All
	_ interface {
		Event(names ...string) api.Verdict
	} = (*runner.Runner)(nil)
)

func TestNumbers(t *testing.T) {
	if api.OK != 0 || api.ErrRunnerForm != 170 || api.ErrRunnerState != 171 {
		t.Errorf("%d, %d, %d", api.OK, api.ErrRunnerForm, api.ErrRunnerState)
	}
}

func names8() []string { return strings.Split("a b c d e f g h", " ") }

// state is what a state says, and where it goes by each letter.
type state struct {
	out  api.Verdict
	next []int
}

func st(out api.Verdict, next ...int) state { return state{out, next} }

// machine is one over so many names.
func machine(props int, states ...state) api.Moore {
	m := api.Moore{Props: names8()[:props]}
	for _, s := range states {
		m.Next = append(m.Next, s.next)
		m.Out = append(m.Out, s.out)
	}
	return m
}

// always is the monitor of G a; until that of a U b.
func always() api.Moore { return machine(1, st(3, 1, 0), st(2, 1, 1)) }

func until() api.Moore { return machine(2, st(3, 1, 0, 2, 2), st(2, 1, 1, 1, 1), st(1, 2, 2, 2, 2)) }

// draw are numbers that look as if nobody knew them, always the same.
type draw uint32

func (d *draw) below(n int) int {
	*d = *d*1664525 + 1013904223
	return int(*d>>8) % n
}

// machine is one of 1 to so many states; it says unlike things seldom, and often stays where it is, so that some states are final and others are not.
func (d *draw) machine(states, props int) api.Moore {
	n := 1 + d.below(states)
	m := api.Moore{Props: names8()[:props]}
	for s := range n {
		row := make([]int, 1<<props)
		still := d.below(2) == 0
		for letter := range row {
			row[letter] = s
			if !still || d.below(3) == 0 {
				row[letter] = d.below(n)
			}
		}
		m.Next = append(m.Next, row)
		m.Out = append(m.Out, api.Verdict(max(1, 3-d.below(10)/4)))
	}
	return m
}

// letters are so many of all those that there are, be they over the list or not.
func (d *draw) letters(length int) []uint16 {
	u := make([]uint16, length)
	for i := range u {
		u[i] = uint16(d.below(65536))
	}
	return u
}

// events are so many lists of names; some names are no names of the list, some come twice.
func (d *draw) events(length int) [][]string {
	odd := []string{"zz", "", "A", "a ", " a", "ab", `"`, "\xff", strings.Repeat("a", 100)}
	events := make([][]string, length)
	for i := range events {
		for range d.below(6) {
			if d.below(4) == 0 {
				events[i] = append(events[i], odd[d.below(len(odd))])
			} else {
				events[i] = append(events[i], names8()[d.below(8)])
			}
		}
	}
	return events
}

// letterOf is the letter of names over a list, by hand.
func letterOf(props, names []string) uint16 {
	sum := 0
	for i, value := 0, 1; i < len(props); i, value = i+1, value*2 {
		if slices.Contains(names, props[i]) {
			sum += value
		}
	}
	return uint16(sum)
}

// behind is the state behind letters, from a state on: what is left of a letter when it is parted by how many there are.
func behind(m api.Moore, state int, u ...uint16) int {
	for _, letter := range u {
		state = m.Next[state][int(letter)%len(m.Next[state])]
	}
	return state
}

// finalByHand tells whether all states to which one comes from one say the same.
func finalByHand(m api.Moore, state int) bool {
	reached := []int{state}
	for i := 0; i < len(reached); i++ {
		for _, to := range m.Next[reached[i]] {
			if !slices.Contains(reached, to) {
				reached = append(reached, to)
			}
		}
	}
	return !slices.ContainsFunc(reached, func(other int) bool { return m.Out[other] != m.Out[state] })
}

// running wants a runner.
func running(t *testing.T, m api.Moore) *runner.Runner {
	t.Helper()
	r, err := runner.New(m)
	if err != api.OK || r == nil {
		t.Fatalf("New(%+v): %v, %v", m, r, err)
	}
	return r
}

// wantAt wants a runner of a machine to be at a state, and to tell what it has to there.
func wantAt(t *testing.T, r *runner.Runner, m api.Moore, state int) {
	t.Helper()
	if r.State() != state || r.Verdict() != m.Out[state] || r.Final() != finalByHand(m, state) {
		t.Fatalf("%+v: at %d, %d, final: %v; want it at %d", m, r.State(), r.Verdict(), r.Final(), state)
	}
}

func wantRun(t *testing.T, m api.Moore, want []api.Verdict, events ...[]string) {
	t.Helper()
	if got, err := runner.Run(m, events...); err != api.OK || !slices.Equal(got, want) {
		t.Fatalf("Run(%+v, %q): %v, %v; want %v", m, events, got, err, want)
	}
}

// wantAll wants these verdicts of a range, each time anew.
func wantAll(t *testing.T, all iter.Seq[api.Verdict], want ...api.Verdict) {
	t.Helper()
	for range 2 {
		if got := slices.Collect(all); !slices.Equal(got, want) {
			t.Fatalf("All: %v, want %v", got, want)
		}
	}
}

// The chapter's examples.
func TestExamples(t *testing.T) {
	m := always()
	r := running(t, m)
	if v := r.Event("a", "zz"); v != 3 || r.State() != 0 || r.Final() {
		t.Errorf("%d, at %d", v, r.State())
	}
	if v := r.Event(); v != 2 || r.State() != 1 || !r.Final() {
		t.Errorf("%d, at %d", v, r.State())
	}
	r.Reset()
	if v := r.Verdict(); v != 3 {
		t.Errorf("%d behind Reset", v)
	}
	if err := r.Goto(2); err != api.ErrRunnerState {
		t.Errorf("Goto(2): %v", err)
	}
	wantRun(t, m, []api.Verdict{3, 2, 2}, []string{"a"}, nil, []string{"a"})
	if r.Letter("a", "a") != 1 || r.Letter("b") != 0 {
		t.Errorf("%d, %d", r.Letter("a", "a"), r.Letter("b"))
	}
	if v := r.Step(65535); v != 3 || r.State() != 0 {
		t.Errorf("Step(65535): %d, at %d", v, r.State())
	}
}

// DOC.md, the example 1: by 0 false, by 1 nothing new, by 2 and 3 true.
func TestUntil(t *testing.T) {
	m := until()
	r := running(t, m)
	wantAt(t, r, m, 0)
	for _, c := range []struct {
		names []string
		state int
		final bool
	}{{[]string{"a"}, 0, false}, {[]string{"a", "x"}, 0, false}, {[]string{"b", "a"}, 2, true}, {nil, 2, true}} {
		if v := r.Event(c.names...); v != m.Out[c.state] || r.State() != c.state || r.Final() != c.final {
			t.Errorf("%q: %d, at %d", c.names, v, r.State())
		}
	}
	wantRun(t, m, []api.Verdict{3, 1, 1}, []string{"a"}, []string{"b"}, nil)
	wantRun(t, m, []api.Verdict{2, 2}, nil, []string{"b"})
	wantAll(t, runner.All(m, slices.Values([]uint16{1, 5, 2, 0})), 3, 3, 1, 1)
	wantAll(t, runner.All(m, slices.Values([]uint16{4, 3})), 2, 2)
}
