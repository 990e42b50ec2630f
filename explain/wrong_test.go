package explain_test

import (
	"errors"
	"math"
	"slices"
	"strconv"
	"strings"
	"testing"

	"augur/api"
	"augur/explain"
	"augur/moore"
	"augur/synth"
)

// wantRefused wants Witness, behind any letters, and Classify to tell an error, and nothing beside it.
func wantRefused(t *testing.T, f api.Formula, names []string, want api.Errno) {
	t.Helper()
	for _, u := range [][]uint16{nil, {0}, {65535}, {1, 256, 0}} {
		if h, g, err := explain.Witness(f, names, u...); len(h) != 0 || len(g) != 0 || err != want {
			t.Fatalf("Witness(%.200s, %q, %v): %v, %v, %v; want %v", told(f), names, u, h, g, err, want)
		}
	}
	if c, err := explain.Classify(f, names); c != (api.Class{}) || err != want {
		t.Fatalf("Classify(%.200s, %q): %+v, %v; want %v", told(f), names, c, err, want)
	}
}

// badTrees are no formulas of the future: by form, and by being too great.
func badTrees() (formless, great []api.Formula) {
	a, b := prop("a"), prop("b")
	formless = []api.Formula{
		{}, op(api.OpTrig + 1), op(255), op(api.OpAnd, a), op(api.OpNot), op(api.OpNot, a, b), op(api.OpTrue, a), {Op: api.OpTrue, Name: "a"}, {Op: api.OpProp}, prop("a\"b"), prop(strings.Repeat("n", 33)), {Op: api.OpUntil, Name: "U", Kids: []api.Formula{a, b}},
		op(api.OpYest, a), op(api.OpSince, a, b), op(api.OpAnd, a, op(api.OpOnce, b)), {Op: api.OpProp, Name: "a", Kids: []api.Formula{b}},
		chain(200, api.OpNext, op(api.OpHist, a)), // too deep, too, but the form is told first
	}
	return formless, []api.Formula{chain(100, api.OpNext, a), spread(api.OpAnd, slices.Repeat([]api.Formula{a}, 501)...), chain(50000, api.OpNot, a)}
}

// What synth.Of refuses with its Default is refused with its number, in its order; and ahead of all letters.
func TestRefused(t *testing.T) {
	formless, great := badTrees()
	trees := slices.Concat(formless, great, []api.Formula{prop("z"), prop("a")})
	badLists := [][]string{{""}, {"a", "b", "a"}, {"a", "b", `"`}, {"a", "b", `\`}, {"a", "b", "\x1f"}, {"a", "b", "\x7f"}, {"a", "b", "é"}, {"a", "b", strings.Repeat("n", 33)}, append(names8(), "i"), slices.Repeat([]string{"a"}, 70)}
	for _, names := range badLists {
		for _, f := range trees {
			wantRefused(t, f, names, api.ErrArg)
		}
	}
	for _, names := range [][]string{nil, {}, {"b"}, {"b", "a"}, names8()} {
		for _, f := range formless {
			wantRefused(t, f, names, api.ErrTreeForm)
		}
		for _, f := range great {
			wantRefused(t, f, names, api.ErrTreeBig)
		}
		for _, f := range []api.Formula{prop("z"), op(api.OpAnd, prop("a"), prop("z")), op(api.OpOr, op(api.OpTrue), prop("A"))} {
			wantRefused(t, f, names, api.ErrEvalProp)
		}
	}
	wantRefused(t, read("a | true"), nil, api.ErrEvalProp)
	wantRefused(t, read("a | true"), []string{"b"}, api.ErrEvalProp)
}

// Each limit of synth.Default: what is above it is refused, what is just at it is not.
func TestDefaultBounds(t *testing.T) {
	l := synth.Default()
	a := prop("a")
	lefts := func(n int) api.Formula { // so many splits, one in another
		f := a
		for range n {
			f = op(api.OpUntil, f, prop("b"))
		}
		return f
	}
	for _, c := range []struct {
		f    api.Formula
		want api.Errno
	}{
		{spread(api.OpAnd, slices.Repeat([]api.Formula{a}, 67)...), api.OK}, {spread(api.OpAnd, slices.Repeat([]api.Formula{a}, 68)...), api.ErrLimitNodes}, // 200 and 203, of its negation
		{chain(l.Depth-1, api.OpNext, a), api.OK}, {chain(l.Depth, api.OpNext, a), api.ErrLimitDepth},
		{lefts(l.Splits + 1), api.ErrLimitSplits},
		{read("G (a -> X X X X X X X X X X X X b)"), api.ErrLimitTableau},
		{read("F a & F b & F c & F d & F e & F f & F g & F h"), api.ErrLimitSplits},
		{read("a U (b U (c U (d U (e U (f U (g U h))))))"), api.ErrLimitStates},
	} {
		if _, err := synth.Of(c.f, names8(), l); c.want == api.OK && err != nil || c.want != api.OK && !errors.Is(err, c.want) {
			t.Fatalf("%s: %v, want %v", told(c.f), err, c.want)
		}
		if c.want != api.OK {
			wantRefused(t, c.f, names8(), c.want)
		} else {
			classOf(t, c.f, names8())
		}
	}
	wantWitness(t, chain(l.Depth-1, api.OpNext, a), ab(), nil, strings.Repeat("0 ", l.Depth-1)+"1 (0)", "(0)")
	wantClass(t, chain(l.Depth-1, api.OpNext, a), ab(), api.Class{Safe: true, CoSafe: true, Monitorable: true})
}

// Letters: each is below 2 to the number of names, wherever it stands; the greatest ones that are, are taken.
func TestLetters(t *testing.T) {
	for k := range 9 {
		names := names8()[:k]
		f := op(api.OpTrue)
		top := uint16(1<<k - 1)
		last := "(0)"
		if top > 0 {
			last = strings.Repeat(strconv.Itoa(int(top))+" ", 3) + last
		}
		wantWitness(t, f, names, []uint16{top, top, top}, last, "")
		for _, letter := range []uint16{top + 1, top + 2, 2*top + 2, 256, 257, 32768, 65535} {
			for i := range 3 {
				u := []uint16{top, top, top}
				u[i] = letter
				if h, g, err := explain.Witness(f, names, u...); len(h) != 0 || len(g) != 0 || err != api.ErrExplainForm {
					t.Errorf("over %d names, %v: %v, %v, %v", k, u, h, g, err)
				}
			}
		}
	}
}

// three is a machine that is right: it goes round with the letter 1, and stays with 0.
func three() api.Moore {
	return api.Moore{Props: []string{"a"}, Next: [][]int{{0, 1}, {1, 2}, {2, 0}}, Out: []api.Verdict{3, 1, 2}}
}

// still is a machine of one state over these names.
func still(names []string) api.Moore {
	return api.Moore{Props: names, Next: [][]int{make([]int, 1<<len(names))}, Out: []api.Verdict{3}}
}

// wrong are machines that are not right, each by one fault.
func wrong() map[string]api.Moore {
	list := map[string]api.Moore{"nothing": {}}
	spoil := func(who string, change func(*api.Moore)) {
		m := three()
		change(&m)
		list[who+", the fault "+strconv.Itoa(len(list))] = m // some faults are made at several places
	}
	spoil("no states", func(m *api.Moore) { m.Next, m.Out = nil, nil })
	spoil("no states, lists that are empty", func(m *api.Moore) { m.Next, m.Out = [][]int{}, []api.Verdict{} })
	spoil("no Next", func(m *api.Moore) { m.Next = nil })
	spoil("no Out", func(m *api.Moore) { m.Out = nil })
	spoil("one Out too few", func(m *api.Moore) { m.Out = m.Out[:2] })
	spoil("one Out too many", func(m *api.Moore) { m.Out = append(m.Out, 3) })
	spoil("one row too few", func(m *api.Moore) { m.Next = [][]int{{0, 1}, {1, 1}} })
	spoil("one row too many", func(m *api.Moore) { m.Next = append(m.Next, []int{0, 0}) })
	for i := range 3 {
		for _, out := range []api.Verdict{0, 4, 5, 128, 255} {
			spoil("no verdict", func(m *api.Moore) { m.Out[i] = out })
		}
		for _, row := range [][]int{nil, {0}, {0, 0, 0}, {0, 0, 0, 0}} {
			spoil("a row of another length", func(m *api.Moore) { m.Next[i] = row })
		}
		for letter := range 2 {
			for _, state := range []int{-1, 3, 4, math.MaxInt, math.MinInt, 1 << 32, -1 << 32} {
				spoil("no state", func(m *api.Moore) { m.Next[i][letter] = state })
			}
		}
	}
	spoil("rows of unlike length", func(m *api.Moore) { m.Next = [][]int{{0, 0, 0}, {0}, {0, 0}} })
	spoil("no name", func(m *api.Moore) { m.Props = nil })
	spoil("a name too many", func(m *api.Moore) { m.Props = []string{"p", "q"} })
	for _, name := range []string{"", strings.Repeat("n", 33), `"`, `\`, "a\"b", "a\\", "\x1f", "\x7f", "a\x00", "\x80", "é", "a\n"} {
		spoil("the name "+name, func(m *api.Moore) { m.Props = []string{name} })
	}
	list["nine names"] = still(append(names8(), "i"))
	list["names without end"] = api.Moore{Props: make([]string, 100), Next: [][]int{{0}}, Out: []api.Verdict{3}}
	list["two names alike"] = still([]string{"a", "b", "a"})
	return list
}

// What is no machine is refused ahead of what is no state and no verdict.
func TestWrongMachines(t *testing.T) {
	for who, m := range wrong() {
		if moore.Check(m) != api.ErrMooreForm {
			t.Fatalf("%s: it is right", who)
		}
		for _, state := range []int{0, 2, -1, 3, 9} {
			for _, v := range []api.Verdict{1, 3, 0, 4} {
				if u, is, err := explain.Nearest(m, state, v); len(u) != 0 || is || err != api.ErrMooreForm {
					t.Errorf("%s: Nearest(%d, %d): %v, %v, %v", who, state, v, u, is, err)
				}
			}
		}
		if l, err := explain.Dead(m); len(l) != 0 || err != api.ErrMooreForm {
			t.Errorf("%s: Dead: %v, %v", who, l, err)
		}
	}
}

// What is no state, and what is no verdict, be it the one, the other, or both.
func TestNoStateNoVerdict(t *testing.T) {
	for _, m := range []api.Moore{three(), still(nil), still(names8())} {
		n := len(m.Next)
		for _, state := range []int{-1, n, n + 1, 256, math.MaxInt, math.MinInt, 1 << 32, -1 << 32} {
			for v := range api.Verdict(6) {
				wantArg(t, m, state, v)
			}
		}
		for _, v := range []api.Verdict{0, 4, 5, 127, 128, 254, 255} {
			for state := range n {
				wantArg(t, m, state, v)
			}
		}
		wantNearest(t, m, n-1, m.Out[n-1], nil, true)
	}
}

func wantArg(t *testing.T, m api.Moore, state int, v api.Verdict) {
	t.Helper()
	if u, is, err := explain.Nearest(m, state, v); len(u) != 0 || is || err != api.ErrArg {
		t.Errorf("Nearest(%d, %d) of %d states: %v, %v, %v", state, v, len(m.Next), u, is, err)
	}
}

// What is right, at the edges: names as long and as many as they may be, and all bytes of which they may be.
func TestRight(t *testing.T) {
	for _, m := range []api.Moore{still(nil), still([]string{}), still(names8()), still([]string{" ", "~", "!", "#", "[", "]"}), still([]string{strings.Repeat("n", 32), strings.Repeat("n", 31)})} {
		wantNearest(t, m, 0, 3, nil, true)
		wantNearest(t, m, 0, 1, nil, false)
		wantDead(t, m, 0)
		for _, name := range m.Props {
			wantClass(t, op(api.OpAlways, prop(name)), m.Props, api.Class{Safe: true, Monitorable: true})
		}
	}
}
