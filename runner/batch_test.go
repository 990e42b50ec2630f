package runner_test

import (
	"iter"
	"slices"
	"testing"

	"augur/api"
	"augur/runner"
)

// A BATCH IS ITS STEPS: Run says what Event says, one by one; All what Step says, the bits of Props alone counting.
func TestBatches(t *testing.T) {
	d := draw(5)
	for range 1500 {
		m := d.machine(9, d.below(5))
		events, letters := d.events(d.below(15)), d.letters(d.below(15))
		r := running(t, m)
		var byEvents, byHand, bySteps []api.Verdict
		at := 0
		for _, names := range events {
			byEvents = append(byEvents, r.Event(names...))
			at = behind(m, at, letterOf(m.Props, names))
			byHand = append(byHand, m.Out[at])
		}
		wantRun(t, m, byHand, events...)
		wantRun(t, m, byEvents, events...)
		r.Reset()
		for i, letter := range letters {
			bySteps = append(bySteps, r.Step(letter))
			if bySteps[i] != m.Out[behind(m, 0, letters[:i+1]...)] {
				t.Fatalf("%+v by %v: %v", m, letters, bySteps)
			}
		}
		wantAll(t, runner.All(m, slices.Values(letters)), bySteps...)
	}
}

// Without an event, without a letter: nothing is said, not even at the first state.
func TestNothingComes(t *testing.T) {
	for _, m := range []api.Moore{always(), until(), machine(0, st(1, 0))} {
		wantRun(t, m, nil)
		wantRun(t, m, nil, [][]string{}...)
		wantRun(t, m, []api.Verdict{m.Out[m.Next[0][0]]}, nil)
		wantAll(t, runner.All(m, func(func(uint16) bool) {}))
		wantAll(t, runner.All(m, slices.Values([]uint16(nil))))
	}
}

// As many verdicts as events, however many.
func TestManyEvents(t *testing.T) {
	m := machine(1, st(3, 0, 1), st(1, 1, 2), st(2, 2, 0))
	events := make([][]string, 100000)
	want := make([]api.Verdict, len(events))
	at := 0
	for i := range events {
		if i%7 < 3 {
			events[i] = []string{"x", "a"}
			at = (at + 1) % 3
		}
		want[i] = m.Out[at]
	}
	wantRun(t, m, want, events...)
}

// source are letters that are asked one by one; it counts what it is asked for.
type source struct {
	letters []uint16
	ranges  int // how often it was ranged over
	asked   int // how many letters were taken
	left    int // how often it was told to end
}

func (s *source) all() iter.Seq[uint16] {
	return func(yield func(uint16) bool) {
		s.ranges++
		for i := 0; ; i++ { // without an end
			s.asked++
			if !yield(s.letters[i%len(s.letters)]) {
				s.left++
				return
			}
		}
	}
}

// Letters are not asked till All's answer is; no further than it is; as often as it is; and each time from the first state on.
func TestAskedNoFurther(t *testing.T) {
	m := machine(1, st(3, 0, 1), st(1, 1, 2), st(2, 2, 0))
	s := &source{letters: []uint16{1, 0, 1, 1, 0}}
	all := runner.All(m, s.all())
	if s.ranges != 0 || s.asked != 0 {
		t.Fatalf("asked ahead: %+v", s)
	}
	asked := 0
	for n := 1; n < 40; n++ {
		var got []api.Verdict
		for v := range all {
			got = append(got, v)
			if s.asked != asked+len(got) {
				t.Fatalf("%d letters asked for %d verdicts", s.asked-asked, len(got))
			}
			if len(got) == n {
				break
			}
		}
		asked += n
		if s.ranges != n || s.left != n || s.asked != asked {
			t.Fatalf("behind %d ranges: %+v", n, s)
		}
		for i, v := range got {
			if v != m.Out[(i/5*3+[]int{1, 1, 2, 3, 3}[i%5])%3] {
				t.Fatalf("%v", got)
			}
		}
	}
}

// A verdict that is sure ends nothing: it goes on as long as letters do.
func TestSureGoesOn(t *testing.T) {
	wantAll(t, runner.All(always(), slices.Values([]uint16{1, 0, 1, 1, 0, 1})), 3, 2, 2, 2, 2, 2)
}

// It may be left however one leaves a loop, from within others, too.
func TestLeft(t *testing.T) {
	s := &source{letters: []uint16{1}}
	all := runner.All(always(), s.all())
	first := func() api.Verdict {
		for v := range all {
			return v
		}
		return 0
	}
	if first() != 3 || s.asked != 1 {
		t.Errorf("return: %+v", s)
	}
	count := 0
outer:
	for range 3 {
		for range all {
			count++
			switch {
			case count%4 == 0:
				continue outer
			case count == 10:
				break outer
			}
		}
	}
	if count != 10 || s.asked != 11 || s.ranges != 4 || s.left != 4 {
		t.Errorf("labels: %d, %+v", count, s)
	}
	taken := 0
	all(func(api.Verdict) bool {
		taken++
		return taken < 5
	})
	if taken != 5 || s.asked != 16 {
		t.Errorf("by hand: %d, %+v", taken, s)
	}
}

// Ranges of one answer know nothing of one another, one within the other or side by side.
func TestRangesOfOne(t *testing.T) {
	m := machine(0, st(3, 1), st(1, 2), st(2, 0))
	all := runner.All(m, slices.Values([]uint16{0, 0, 0, 0}))
	want := []api.Verdict{1, 2, 3, 1}
	i := 0
	for v := range all {
		if v != want[i] {
			t.Errorf("the outer one: %d at %d", v, i)
		}
		i++
		wantAll(t, all, want...)
	}
	next, stop := iter.Pull(all)
	defer stop()
	other, stopOther := iter.Pull(all)
	defer stopOther()
	for i, v := range want {
		if got, ok := next(); got != v || !ok {
			t.Errorf("the one: %d at %d", got, i)
		}
		if i%2 == 0 {
			if got, ok := other(); got != want[i/2] || !ok {
				t.Errorf("the other one: %d at %d", got, i/2)
			}
		}
	}
	if _, ok := next(); ok {
		t.Error("the one has more")
	}
}

// Letters are asked: what they are when they are ranged over. Verdicts of one machine may be asked for by what other verdicts of it lead to.
func TestLettersAsTheyAre(t *testing.T) {
	list := []uint16{1, 1}
	all := runner.All(always(), slices.Values(list))
	wantAll(t, all, 3, 3)
	list[1] = 0
	wantAll(t, all, 3, 2)
	var told []uint16
	for v := range all {
		told = append(told, uint16(v))
	}
	wantAll(t, runner.All(until(), slices.Values(told)), 1, 1)
	again := func(yield func(uint16) bool) {
		for v := range all {
			if !yield(uint16(v)) {
				return
			}
		}
	}
	wantAll(t, runner.All(until(), again), 1, 1)
}

// No letters at all; and letters that are none: they give up by panic, or go on though they are told to end. That is their end.
func TestLettersThatPanic(t *testing.T) {
	wantAll(t, runner.All(always(), nil))
	wantAll(t, runner.All(always(), func(func(uint16) bool) { panic("no letters") }))
	wantAll(t, runner.All(always(), func(yield func(uint16) bool) {
		_ = yield(1) && yield(0)
		panic("no more letters")
	}), 3, 2)
	deaf := func(yield func(uint16) bool) {
		for {
			yield(1)
		}
	}
	count := 0
	for v := range runner.All(always(), deaf) {
		count++
		if v != 3 {
			t.Errorf("%d", v)
		}
		if count == 3 {
			break
		}
	}
	if count != 3 {
		t.Errorf("%d verdicts", count)
	}
}

// What the asker's loop gives up by goes on to the asker; also if the letters would recover it.
func TestAskerThatPanics(t *testing.T) {
	s := &source{letters: []uint16{1}}
	recovering := func(yield func(uint16) bool) {
		defer func() { recover() }()
		for {
			if !yield(1) {
				return
			}
		}
	}
	for who, letters := range map[string]iter.Seq[uint16]{"a source": s.all(), "a list": slices.Values([]uint16{1, 1, 1}), "what recovers": recovering} {
		all := runner.All(always(), letters)
		for n := 1; n < 3; n++ {
			if got := givenUp(all, n); got == nil || who != "what recovers" && got != "given up" {
				t.Errorf("%s: %v came of it at the verdict %d", who, got, n)
			}
		}
		count := 0
		for range all { // and it may be ranged over again
			if count++; count == 2 {
				break
			}
		}
		if count != 2 {
			t.Errorf("%s: %d verdicts", who, count)
		}
	}
	if s.left != 1 || s.asked != 5 {
		t.Errorf("%+v", s)
	}
}

// givenUp is what comes of a range that is given up by panic at the n-th verdict.
func givenUp(all iter.Seq[api.Verdict], n int) (what any) {
	defer func() { what = recover() }()
	count := 0
	for range all {
		if count++; count == n {
			panic("given up")
		}
	}
	return nil
}
