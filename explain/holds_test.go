package explain_test

import (
	"slices"
	"testing"

	"augur/api"
	"augur/eval"
	"augur/explain"
	"augur/nnf"
	"augur/words"
)

// T1: what is shown shows it, and begins with u; the verdict behind u is what is shown there.
func TestShown(t *testing.T) {
	said := map[api.Verdict]int{}
	for _, f := range some(130, 4) {
		m := monitor(t, f, ab())
		for length := range 3 {
			for _, u := range rows(2, length) {
				said[wantVerdict(t, f, ab(), m, u)]++
			}
		}
	}
	for v := api.True; v <= api.Inconclusive; v++ {
		if said[v] < 100 {
			t.Errorf("%d is said %d times", v, said[v])
		}
	}
}

// wantVerdict wants T1 behind u, and tells the verdict.
func wantVerdict(t *testing.T, f api.Formula, names []string, m api.Moore, u []uint16) api.Verdict {
	t.Helper()
	holds, fails, err := explain.Witness(f, names, u...)
	if err != api.OK || len(holds) > 1 || len(fails) > 1 {
		t.Fatalf("%s behind %v: %v, %v, %v", told(f), u, holds, fails, err)
	}
	for _, w := range slices.Concat(holds, fails) {
		if !slices.Equal(words.Prefix(w, len(u)), u) || words.Check(w, len(names)) != api.OK {
			t.Fatalf("%s behind %v: %s", told(f), u, words.Show(w))
		}
	}
	for _, w := range holds {
		wantHolds(t, f, names, w, true)
	}
	for _, w := range fails {
		wantHolds(t, f, names, w, false)
	}
	want := map[[2]int]api.Verdict{{1, 0}: api.True, {0, 1}: api.False, {1, 1}: api.Inconclusive}[[2]int{len(holds), len(fails)}]
	if got := m.Out[behind(m, 0, u...)]; got != want {
		t.Fatalf("%s behind %v: %d; %v, %v", told(f), u, got, holds, fails)
	}
	return want
}

func wantHolds(t *testing.T, f api.Formula, names []string, w api.Word, want bool) {
	t.Helper()
	if is, err := eval.Holds(f, names, w); err != api.OK || is != want {
		t.Fatalf("%s, %q, %s: %v, %v", told(f), names, words.Show(w), is, err)
	}
}

// T1 behind longer rows, over more names, and in other orders.
func TestShownOverMore(t *testing.T) {
	d := draw(41)
	for i, f := range some(130, 4) {
		names := [][]string{{"b", "a"}, {"c", "a", "b"}, names8()}[i%3]
		m := monitor(t, f, names)
		wantVerdict(t, f, names, m, d.letters(1+d.below(12), len(names)))
	}
}

// What is shown from the nearest row on: behind it there is the one alone.
func TestBehindNearest(t *testing.T) {
	met := 0
	for _, f := range some(130, 4) {
		m := monitor(t, f, ab())
		for v := api.True; v <= api.Inconclusive; v++ {
			u, found, err := explain.Nearest(m, 0, v)
			if err != api.OK {
				t.Fatal(err)
			}
			if !found {
				continue
			}
			met++
			if wantVerdict(t, f, ab(), m, u) != v {
				t.Errorf("%s behind %v: not %d", told(f), u, v)
			}
			for length := range len(u) {
				for _, shorter := range rows(2, length) {
					if m.Out[behind(m, 0, shorter...)] == v {
						t.Errorf("%s: %d is nearest behind %v, and is said behind %v", told(f), v, u, shorter)
					}
				}
			}
		}
	}
	if met < 200 {
		t.Errorf("%d rows", met)
	}
}

// How the classes hang together, and that they are of what a formula means.
func TestClassesHangTogether(t *testing.T) {
	for _, f := range some(400, 4) {
		c := classOf(t, f, ab())
		if (c.Valid || c.Empty) && !(c.Safe && c.CoSafe) || (c.Safe || c.CoSafe) && !c.Monitorable || c.Valid && c.Empty {
			t.Errorf("%s: %+v", told(f), c)
		}
		wantClass(t, not(f), ab(), turned(c))
		for _, form := range []struct {
			of   func(api.Formula) (api.Formula, api.Errno)
			want api.Class
		}{{nnf.Normal, c}, {nnf.Simple, c}, {nnf.Dual, turned(c)}} {
			other, err := form.of(f)
			if err != api.OK {
				t.Fatal(err)
			}
			if d, err := explain.Classify(other, ab()); err == api.OK && d != form.want { // it may have more splits than are allowed
				t.Errorf("%s: %+v, and %s: %+v", told(f), c, told(other), d)
			}
		}
		m := monitor(t, f, ab())
		dead, err := explain.Dead(m)
		if err != api.OK || c.Monitorable != (len(dead) == 0) || c.Valid != (m.Out[0] == api.True) || c.Empty != (m.Out[0] == api.False) {
			t.Errorf("%s: %+v; %+v; %v are dead, %v", told(f), c, m, dead, err)
		}
	}
}

// Both of what two safe formulas ask is safe; either of two co-safe ones is co-safe.
func TestClassesOfTwo(t *testing.T) {
	list := some(120, 3)
	var safe, coSafe int
	for i, f := range list[1:] {
		g := list[i]
		both, either := op(api.OpAnd, f, g), op(api.OpOr, f, g)
		b, err := explain.Classify(both, ab())
		if err != api.OK {
			continue
		}
		e, err := explain.Classify(either, ab())
		if err != api.OK {
			continue
		}
		c, d := classOf(t, f, ab()), classOf(t, g, ab())
		if c.Safe && d.Safe {
			safe++
			if !b.Safe || !e.Safe {
				t.Errorf("%s, %s: both %+v, either %+v", told(f), told(g), b, e)
			}
		}
		if c.CoSafe && d.CoSafe {
			coSafe++
			if !b.CoSafe || !e.CoSafe {
				t.Errorf("%s, %s: both %+v, either %+v", told(f), told(g), b, e)
			}
		}
	}
	if safe < 10 || coSafe < 10 {
		t.Errorf("%d pairs of safe ones, %d of co-safe ones", safe, coSafe)
	}
}
