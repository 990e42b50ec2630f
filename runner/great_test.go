package runner_test

import (
	"runtime/debug"
	"slices"
	"testing"

	"augur/api"
	"augur/runner"
)

const many = 1000000

// shallow lets stacks be small while a test runs: calls within calls, along a way as long as these, would end the tests.
func shallow(t *testing.T) {
	was := debug.SetMaxStack(1 << 20)
	t.Cleanup(func() { debug.SetMaxStack(was) })
}

// made is a machine of so many states whose ways and verdicts are told.
func made(props, n int, next func(state, letter int) int, says func(state int) api.Verdict) api.Moore {
	m := api.Moore{Props: names8()[:props], Next: make([][]int, n), Out: make([]api.Verdict, n)}
	for s := range n {
		m.Next[s] = make([]int, 1<<props)
		for letter := range m.Next[s] {
			m.Next[s][letter] = next(s, letter)
		}
		m.Out[s] = says(s)
	}
	return m
}

// only says True at one state, Inconclusive at all others.
func only(at int) func(int) api.Verdict {
	return func(s int) api.Verdict {
		if s == at {
			return api.True
		}
		return api.Inconclusive
	}
}

// wantGreat wants of a great machine whether each state is final.
func wantGreat(t *testing.T, m api.Moore, final func(state int) bool) {
	t.Helper()
	r := running(t, m)
	for s := range m.Next {
		if err := r.Goto(s); err != api.OK || r.Final() != final(s) || r.State() != s || r.Verdict() != m.Out[s] {
			t.Fatalf("%d is final: %v; %v, %d, %d", s, r.Final(), err, r.State(), r.Verdict())
		}
	}
}

// A long way: only its end is final; one that says the same all along: each state; a ring: none.
func TestLongWay(t *testing.T) {
	shallow(t)
	on := func(s, _ int) int { return min(s+1, many-1) }
	wantGreat(t, made(1, many, on, only(many-1)), func(s int) bool { return s == many-1 })
	wantGreat(t, made(1, many, on, only(-1)), func(int) bool { return true })
	wantGreat(t, made(1, many, on, only(700000)), func(s int) bool { return s > 700000 })
	round := func(s, letter int) int { return (s + letter) % many }
	wantGreat(t, made(1, many, round, only(5)), func(int) bool { return false })
	wantGreat(t, made(1, many, round, only(-1)), func(int) bool { return true })
}

// Ways that come together, and ways that part; states with very many ways to them.
func TestWideWays(t *testing.T) {
	shallow(t)
	tree := func(s, letter int) int { return min(2*s+1+letter, many-1) }
	wantGreat(t, made(1, many, tree, only(many-1)), func(s int) bool { return s == many-1 })
	ahead := func(s, letter int) int { return max(s-1-letter, 0) }
	wantGreat(t, made(2, many, ahead, only(0)), func(s int) bool { return s == 0 })
	wantGreat(t, made(2, many, ahead, only(many-1)), func(s int) bool { return s != many-1 })
	hub := func(s, letter int) int { return letter * s }
	wantGreat(t, made(1, many, hub, only(0)), func(s int) bool { return s == 0 })
}

// Over 8 names; by one letter of all one comes away.
func TestGreatRows(t *testing.T) {
	n := 4000
	far := func(s, letter int) int { return (s + letter*letter + 1) % n }
	wantGreat(t, made(8, n, far, only(n-1)), func(int) bool { return false })
	away := func(s, letter int) int {
		if letter == 255 {
			return min(s+1, n-1)
		}
		return s
	}
	m := made(8, n, away, only(n-1))
	wantGreat(t, m, func(s int) bool { return s == n-1 })
	r := running(t, m)
	for s := range n - 1 {
		if r.Step(254) != 3 || r.State() != s || r.Step(65535) != m.Out[s+1] || r.State() != s+1 {
			t.Fatalf("at %d", r.State())
		}
	}
}

// A step makes nothing new, nor does anything else that is asked of a runner, whatever names come.
func TestNothingNew(t *testing.T) {
	r := running(t, wide(names8()))
	names := []string{"a", "zz", "h", "a", "c", ""}
	for who, call := range map[string]func(){
		"Step": func() { r.Step(r.Letter("b") + 256) }, "Letter": func() { r.Letter(names...) },
		"Event": func() { r.Event(names...) }, "Event of names that are written there": func() { r.Event("a", "b") },
		"the rest": func() {
			r.Reset()
			if r.Goto(7) != api.OK || r.Goto(256) == api.OK || r.Verdict() == 0 || r.State() != 7 || r.Final() {
				t.Error("it is not there")
			}
		},
	} {
		if n := testing.AllocsPerRun(100, call); n != 0 {
			t.Errorf("%s makes %v new things", who, n)
		}
	}
}

// What All and Run make does not grow with what comes, but for what Run tells.
func TestNothingNewInBatches(t *testing.T) {
	m := wide(names8())
	long := make([]uint16, 10000)
	for i := range long {
		long[i] = uint16(i)
	}
	count := func(letters []uint16) float64 {
		all := runner.All(m, slices.Values(letters))
		return testing.AllocsPerRun(10, func() {
			for range all {
			}
		})
	}
	if one, other := count(long[:1]), count(long); one != other {
		t.Errorf("All: %v new things of one letter, %v of many", one, other)
	}
	events := slices.Repeat([][]string{{"a", "x", "b"}}, 10000)
	run := func(events [][]string) float64 {
		return testing.AllocsPerRun(10, func() { runner.Run(m, events...) })
	}
	if one, other := run(events[:1]), run(events); one != other {
		t.Errorf("Run: %v new things of one event, %v of many", one, other)
	}
}
