package runner_test

import (
	"slices"
	"sync"
	"testing"

	"augur/api"
	"augur/runner"
)

// spoil changes all of a list, and the room behind it.
func spoil[T any](list []T, with T) {
	whole := list[:cap(list)]
	for i := range whole {
		whole[i] = with
	}
}

func spoilMachine(m api.Moore) {
	for _, row := range m.Next {
		spoil(row, 99)
	}
	spoil(m.Props, "spoilt")
	spoil(m.Next, []int{99})
	spoil(m.Out, 99)
}

// roomy is a list with something behind it; room is what stands there.
func roomy[T any](list []T, room T) []T {
	return append(slices.Clip(slices.Clone(list)), room)[:len(list)]
}

func room[T any](list []T) T { return list[:len(list)+1][len(list)] }

// lent is a copy with something behind each list; kept tells whether all of that is as it was.
func lent(m api.Moore) api.Moore {
	l := api.Moore{Props: roomy(m.Props, "room"), Next: roomy(m.Next, []int{-7}), Out: roomy(m.Out, 7)}
	for i, row := range m.Next {
		l.Next[i] = roomy(row, -7)
	}
	return l
}

func kept(l, m api.Moore) bool {
	isSpoilt := func(row []int) bool { return room(row) != -7 }
	return slices.Equal(l.Props, m.Props) && slices.Equal(l.Out, m.Out) && slices.EqualFunc(l.Next, m.Next, slices.Equal) &&
		room(l.Props) == "room" && slices.Equal(room(l.Next), []int{-7}) && room(l.Out) == 7 && !slices.ContainsFunc(l.Next, isSpoilt)
}

// R2: what is lent stays as it is, with the room behind it, whatever the runner does; and nothing of it is kept.
func TestOwnMachine(t *testing.T) {
	d := draw(6)
	for range 600 {
		m := d.machine(8, d.below(5))
		l := lent(m)
		r := running(t, l)
		all := runner.All(l, slices.Values([]uint16{1, 0, 65535, 3}))
		r.Step(65535)
		r.Event("a", "b")
		r.Final()
		want := slices.Collect(all)
		if l.Out[0] != m.Out[0] || !kept(l, m) {
			t.Fatalf("%+v is not as it was: %+v", m, l)
		}
		at := r.State()
		spoilMachine(l)
		for range 2 {
			wantAt(t, r, m, at)
			for i, letter := range d.letters(8) {
				at = behind(m, at, letter)
				if v := r.Step(letter); v != m.Out[at] {
					t.Fatalf("%+v: %d behind %d steps", m, v, i)
				}
				wantAt(t, r, m, at)
			}
			if got := r.Letter(m.Props...); got != 1<<len(m.Props)-1 || r.Letter("spoilt") != 0 {
				t.Fatalf("%+v: all names are %d", m, got)
			}
			r.Reset()
			at = 0
		}
		wantAll(t, all, want...)
	}
}

// R2: names, events and letters stay as they are; what Run tells is the asker's own, with the room behind it.
func TestOwnEvents(t *testing.T) {
	d := draw(7)
	seen := map[*api.Verdict]bool{}
	for range 300 {
		m := d.machine(8, d.below(5))
		l := lent(m)
		events := d.events(1 + d.below(8))
		asked := roomy(events, []string{"room"})
		for i, names := range asked {
			asked[i] = roomy(names, "room")
		}
		var first []api.Verdict
		for i := range 3 {
			got, err := runner.Run(l, asked...)
			if err != api.OK || i > 0 && !slices.Equal(got, first) {
				t.Fatalf("%+v: %v, %v; want %v", m, got, err, first)
			}
			first = slices.Clone(got)
			whole := got[:cap(got)]
			for k := range whole {
				if seen[&whole[k]] {
					t.Fatal("two lists share memory")
				}
				seen[&whole[k]] = true
			}
			spoil(got, 99)
		}
		r := running(t, m)
		for i, names := range asked {
			r.Letter(names...)
			r.Event(names...)
			if !slices.Equal(names, events[i]) || room(names) != "room" {
				t.Fatalf("%q is not as it was: %q", events[i], names)
			}
		}
		if !kept(l, m) || !slices.EqualFunc(asked, events, slices.Equal) || !slices.Equal(room(asked), []string{"room"}) {
			t.Fatalf("%+v, %q are not as they were: %+v, %q", m, events, l, asked)
		}
	}
}

// R4: runners on one machine know nothing of one another, nor of what All goes through.
func TestTwoRunners(t *testing.T) {
	d := draw(8)
	for range 300 {
		m := d.machine(8, d.below(4))
		one, other := running(t, m), running(t, m)
		u, v := d.letters(12), d.letters(12)
		i := 0
		for verdict := range runner.All(m, slices.Values(v)) {
			if one.Step(u[i]) != m.Out[behind(m, 0, u[:i+1]...)] || other.Step(v[i]) != verdict {
				t.Fatalf("%+v by %v and %v, at %d", m, u, v, i)
			}
			wantAt(t, one, m, behind(m, 0, u[:i+1]...))
			wantAt(t, other, m, behind(m, 0, v[:i+1]...))
			i++
		}
		one.Reset()
		wantAt(t, other, m, behind(m, 0, v...))
		if err := other.Goto(len(m.Next) - 1); err != api.OK {
			t.Fatal(err)
		}
		wantAt(t, one, m, 0)
	}
}

// Rows of a machine may be one and the same list.
func TestRowsInCommon(t *testing.T) {
	row := []int{1, 0}
	m := machine(1, st(3, row...), st(2, row...))
	r := running(t, m)
	wantAll(t, runner.All(m, slices.Values([]uint16{0, 0, 1})), 2, 2, 3)
	row[0], row[1] = 0, 0
	for _, v := range []api.Verdict{2, 2} {
		if got := r.Step(0); got != v {
			t.Errorf("%d, want %d", got, v)
		}
	}
}

// R6: a list that is nil and one that is empty are the same.
func TestNilAndEmpty(t *testing.T) {
	for _, names := range [][]string{nil, {}} {
		m := api.Moore{Props: names, Next: [][]int{{1}, {0}}, Out: []api.Verdict{3, 1}}
		r := running(t, m)
		if r.Letter(names...) != 0 || r.Letter("a") != 0 || r.Event(names...) != 1 || r.Event("a") != 3 || r.Step(65535) != 1 {
			t.Errorf("at %d", r.State())
		}
		wantRun(t, m, []api.Verdict{1, 3, 1}, names, nil, names)
		wantRun(t, always(), []api.Verdict{2}, names)
		for _, events := range [][][]string{nil, {}} {
			wantRun(t, m, nil, events...)
		}
	}
}

// Each runner is one's own: many hands may each have one of the same machine, and range each for itself.
func TestManyHands(t *testing.T) {
	d := draw(9)
	m := d.machine(30, 3)
	u := d.letters(200)
	want := make([]api.Verdict, len(u))
	for i := range u {
		want[i] = m.Out[behind(m, 0, u[:i+1]...)]
	}
	common := runner.All(m, slices.Values(u))
	var all sync.WaitGroup
	for range 8 {
		all.Go(func() {
			r, err := runner.New(m)
			if err != api.OK {
				t.Error(err)
				return
			}
			for i, letter := range u {
				if v := r.Step(letter); v != want[i] || r.Letter("a", "c") != 5 {
					t.Errorf("%d at %d", v, i)
				}
			}
			if got := slices.Collect(common); !slices.Equal(got, want) {
				t.Errorf("%v", got)
			}
		})
	}
	all.Wait()
}
