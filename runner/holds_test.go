package runner_test

import (
	"slices"
	"testing"

	"augur/api"
	"augur/eval"
	"augur/moore"
	"augur/syntax"
	"augur/synth"
	"augur/tree"
	"augur/words"

	"augur/runner"
)

func texts() []string {
	return []string{"true", "false", "a", "a & !a", "X a", "X X (a & b)", "a U b", "a R b", "a W b", "G a", "F b", "!F b", "G F a", "F G a", "G (a -> F b)", "G (a -> X b)", "G F a & G F b", "!(a U X b)", "G (a <-> X !a)", "F (a & X F b)", "(a U b) & G !b", "b | (a & X (a U b))", "G (a -> X (!a U b))", "F a -> (!b U a)", "(a U b) | (c & X X d)", "G (a -> X X X b) & F c"}
}

func monitor(t *testing.T, text string) api.Moore {
	t.Helper()
	m, err := synth.Synthesize(text, synth.Default())
	if err != nil {
		t.Fatal(text, err)
	}
	return m
}

// T4: of a monitor each state with the verdict true or false is final; what was said so stays so, whatever comes.
func TestMonitorsAreSure(t *testing.T) {
	d := draw(10)
	for _, text := range texts() {
		m := monitor(t, text)
		for s, final := range finals(t, m) {
			if m.Out[s] != api.Inconclusive && !final || final != finalByHand(m, s) {
				t.Errorf("%s: %d is final: %v", text, s, final)
			}
		}
		for range 30 {
			sure := api.Inconclusive
			for v := range runner.All(m, slices.Values(d.letters(30))) {
				if sure != api.Inconclusive && v != sure {
					t.Fatalf("%s: %d behind %d", text, v, sure)
				}
				sure = v
			}
		}
	}
	// Inconclusive for ever: that is final, too.
	if r := running(t, monitor(t, "G F a")); !r.Final() || r.Verdict() != api.Inconclusive {
		t.Errorf("G F a: %d", r.Verdict())
	}
}

// The state behind letters is moore.Run's; so it is of machines that are no monitors.
func TestMooreRun(t *testing.T) {
	d := draw(11)
	var machines []api.Moore
	for _, text := range texts() {
		machines = append(machines, monitor(t, text))
	}
	for range 300 {
		machines = append(machines, d.machine(12, d.below(5)))
	}
	for _, m := range machines {
		r := running(t, m)
		for range 5 {
			u := d.letters(d.below(20))
			within := make([]uint16, len(u)) // moore.Run takes no others
			for i, letter := range u {
				within[i] = letter % uint16(len(m.Next[0]))
				r.Step(letter)
			}
			if state, err := moore.Run(m, within...); err != api.OK || r.State() != state {
				t.Fatalf("%+v by %v: at %d; %d, %v", m, u, r.State(), state, err)
			}
			r.Reset()
		}
	}
}

// T1, by events: where it says true, all words that go on so hold the formula; where false, none. (These are all words that go on by short ones: they are enough for these formulas where it says inconclusive, too.)
func TestEventsOfFormulas(t *testing.T) {
	for _, text := range []string{"a U b", "G (a -> X b)", "b | (a & X (a U b))", "G F a", "a W b", "X (b & !a)"} {
		f, failure := syntax.Parse(text, synth.Default())
		if failure != nil {
			t.Fatal(text, failure)
		}
		names := tree.Names(f)
		r := running(t, monitor(t, text))
		var u []uint16
		for _, event := range [][]string{{"a"}, {"a", "b", "x"}, {"b"}, {"b", "a", "b"}, {}} {
			u = append(u, letterOf(names, event))
			want := verdictOf(t, f, names, u)
			if v := r.Event(event...); v != want {
				t.Errorf("%s behind %v: %d, want %d", text, u, v, want)
			}
		}
	}
}

// verdictOf is the verdict behind letters, as far as words that go on by short ones tell.
func verdictOf(t *testing.T, f api.Formula, names []string, u []uint16) api.Verdict {
	t.Helper()
	var some, none bool
	for end := range words.All(len(names), 3) {
		holds, err := eval.Holds(f, names, words.Join(u, end))
		if err != api.OK {
			t.Fatal(err)
		}
		some, none = some || holds, none || !holds
	}
	switch {
	case !none:
		return api.True
	case !some:
		return api.False
	}
	return api.Inconclusive
}

// The same formula in other words, over the same list: the same verdicts of all events, whatever the runner.
func TestOneMonitor(t *testing.T) {
	d := draw(12)
	list := []string{"b", "x", "a"}
	var machines []api.Moore
	for _, text := range []string{"a U b", "b | (a & X (a U b))", "!(!a R !b)"} {
		f, failure := syntax.Parse(text, synth.Default())
		if failure != nil {
			t.Fatal(text, failure)
		}
		m, err := synth.Of(f, list, synth.Default())
		if err != nil {
			t.Fatal(text, err)
		}
		machines = append(machines, m)
	}
	for range 100 {
		events := d.events(10)
		first, err := runner.Run(machines[0], events...)
		if err != api.OK {
			t.Fatal(err)
		}
		for _, m := range machines {
			wantRun(t, m, first, events...)
		}
	}
}
