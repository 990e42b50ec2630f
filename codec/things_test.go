package codec_test

import (
	"slices"
	"strings"
	"testing"

	"augur/api"
	"augur/tree"
	"augur/words"
)

// allNames are names of all lengths, with all bytes that a name may have.
func allNames() []string {
	var bytes []byte
	for b := byte(0x20); b <= 0x7e; b++ {
		if b != '"' && b != '\\' {
			bytes = append(bytes, b)
		}
	}
	names := []string{string(bytes[:32]), string(bytes[32:64]), string(bytes[len(bytes)-32:])}
	for length := 1; length <= 32; length++ {
		names = append(names, strings.Repeat("n", length))
	}
	return names
}

// notNames are texts that are no names.
func notNames() []string {
	return []string{"", strings.Repeat("n", 33), strings.Repeat("n", 127), strings.Repeat("n", 128), strings.Repeat("n", 300), `"`, `\`, "a\"b", "a\\", "\x1f", "\x7f", "a\x00", "\x80", "é", "a\n", "\x01"}
}

// ofDepth are formulas of that depth at most, of the future or of the past, made of few leaves and all Ops.
func ofDepth(depth int, first, last api.Op) []api.Formula {
	list := []api.Formula{with(api.OpTrue), with(api.OpFalse), prop("p"), prop("a name")}
	if depth == 1 {
		return list
	}
	below := ofDepth(depth-1, first, last)
	for op := api.OpNot; op <= api.OpTrig; op++ {
		if op > api.OpIff && (op < first || op > last) {
			continue
		}
		for i, f := range below {
			if kidsOf(op) == 1 {
				list = append(list, with(op, f))
				continue
			}
			list = append(list, with(op, f, below[(7*i+3)%len(below)]), with(op, below[(5*i)%len(below)], f))
		}
	}
	return list
}

// chain is a formula of that depth, and of as many nodes.
func chain(op api.Op, depth int) api.Formula {
	f := prop("p")
	for range depth - 1 {
		f = with(op, f)
	}
	return f
}

// broad is a formula of that many nodes, as flat as it can be.
func broad(op api.Op, size int) api.Formula {
	switch {
	case size == 1:
		return prop("q")
	case size == 2:
		return with(api.OpNot, prop("q"))
	}
	left := (size - 1) / 2
	return with(op, broad(op, left), broad(op, size-1-left))
}

// formula is a drawn one of the future or of the past.
func (d *draw) formula(depth int, past bool) api.Formula {
	ops := []api.Op{api.OpNot, api.OpAnd, api.OpOr, api.OpImp, api.OpIff, api.OpNext, api.OpEvent, api.OpAlways, api.OpUntil, api.OpRelease, api.OpWeak, api.OpStrong}
	if past {
		ops = append(ops[:5:5], api.OpYest, api.OpWeakYest, api.OpOnce, api.OpHist, api.OpSince, api.OpTrig)
	}
	if depth <= 1 || d.below(5) == 0 {
		names := allNames()
		return []api.Formula{with(api.OpTrue), with(api.OpFalse), prop("p"), prop(names[d.below(len(names))])}[d.below(4)]
	}
	f := with(ops[d.below(len(ops))])
	for range kidsOf(f.Op) {
		f.Kids = append(f.Kids, d.formula(depth-1, past))
	}
	return f
}

func (d *draw) letters(length, props int) []uint16 {
	list := make([]uint16, length)
	for i := range list {
		list[i] = uint16(d.below(1 << props))
	}
	return list
}

func (d *draw) word(longest int) api.Word {
	props := d.below(9)
	return api.Word{Stem: d.letters(d.below(longest), props), Loop: d.letters(1+d.below(longest), props)}
}

// machine has at most so many states and names.
func (d *draw) machine(states, props int) api.Moore {
	n := 1 + d.below(states)
	m := api.Moore{Props: names8()[:d.below(props+1)]}
	for range n {
		next := make([]int, 1<<len(m.Props))
		for letter := range next {
			next[letter] = d.below(n)
		}
		m.Next = append(m.Next, next)
		m.Out = append(m.Out, api.Verdict(1+d.below(3)))
	}
	return m
}

// some are a few numbers below n, rising.
func (d *draw) some(n int) []int {
	var list []int
	for range min(n, 1+d.below(5)) {
		list = append(list, d.below(n))
	}
	slices.Sort(list)
	return slices.Compact(list)
}

func (d *draw) automaton(states, props int) api.Buchi {
	a := api.Buchi{Props: names8()[:d.below(props+1)], States: d.below(states)}
	a.Init, a.Final = d.some(a.States), d.some(a.States)
	for _, from := range d.some(a.States) {
		for _, to := range d.some(a.States) {
			must := d.below(1 << len(a.Props))
			not := d.below(1<<len(a.Props)) &^ must
			a.Edges = append(a.Edges, api.Edge{From: from, To: to, Must: uint16(must), Not: uint16(not)})
		}
	}
	return a
}

// T5 of formulas: all of depth 3 at most with few leaves; drawn ones; all names; as great and as deep as they may be.
func TestFormulas(t *testing.T) {
	k := formulas()
	list := append(ofDepth(3, api.OpNext, api.OpStrong), ofDepth(3, api.OpYest, api.OpTrig)...)
	for _, name := range allNames() {
		list = append(list, prop(name))
	}
	d := draw(2)
	for range 300 {
		list = append(list, d.formula(7, false), d.formula(7, true))
	}
	list = append(list, chain(api.OpNext, 100), chain(api.OpHist, 100), chain(api.OpNot, 99), broad(api.OpAnd, 1000), broad(api.OpTrig, 1000), broad(api.OpUntil, 999))
	for _, f := range list {
		wantForm(t, k, f, k.record(f))
		if t.Failed() {
			t.FailNow()
		}
	}
}

// T5 of words: all small ones, drawn ones, all letters, lists at which the number of their things has a byte more.
func TestWords(t *testing.T) {
	k := infinite()
	for w := range words.All(2, 3) {
		wantForm(t, k, w, k.record(w))
	}
	d := draw(3)
	for range 300 {
		w := d.word(40)
		wantForm(t, k, w, k.record(w))
	}
	for letter := range uint16(256) {
		w := api.Word{Stem: []uint16{255 - letter}, Loop: []uint16{letter}}
		wantForm(t, k, w, k.record(w))
	}
	for _, length := range []int{1, 127, 128, 16383, 16384, 70000} {
		for _, w := range []api.Word{{Loop: d.letters(length, 8)}, {Stem: d.letters(length, 8), Loop: d.letters(length, 8)}} {
			if got, err := k.write(w); err != api.OK || string(got) != string(k.record(w)) {
				t.Errorf("a word of %d letters: %v", length, err)
			}
			if got, err, at := k.read(k.record(w)); err != api.OK || at != 0 || !k.same(got, w) {
				t.Errorf("a word of %d letters is read: %v, %d", length, err, at)
			}
		}
	}
}

// T5 of machines: drawn ones; over 0 to 8 names; all names; with states that are not reached.
func TestMachines(t *testing.T) {
	k := machines()
	d := draw(4)
	for range 300 {
		m := d.machine(20, 4)
		wantForm(t, k, m, k.record(m))
	}
	for props := range 9 {
		m := api.Moore{Props: names8()[:props]}
		for state := range 3 {
			m.Next = append(m.Next, slices.Repeat([]int{2 - state}, 1<<props))
			m.Out = append(m.Out, api.Verdict(1+state))
		}
		wantForm(t, k, m, k.record(m))
	}
	for _, name := range allNames() {
		m := api.Moore{Props: []string{"!", name}, Next: [][]int{{0, 0, 0, 0}}, Out: []api.Verdict{1}}
		wantForm(t, k, m, k.record(m))
	}
	for _, states := range []int{127, 128, 129, 16384, 20000} {
		m := api.Moore{Props: []string{"p"}}
		for state := range states {
			m.Next = append(m.Next, []int{state, (state + 1) % states})
			m.Out = append(m.Out, api.Verdict(1+state%3))
		}
		if got, err := k.write(m); err != api.OK || string(got) != string(k.record(m)) {
			t.Errorf("a machine of %d states: %v", states, err)
		}
		if got, err, at := k.read(k.record(m)); err != api.OK || at != 0 || !k.same(got, m) {
			t.Errorf("a machine of %d states is read: %v, %d", states, err, at)
		}
	}
}

// T5 of automata: drawn ones; all names; as many states as there may be.
func TestAutomata(t *testing.T) {
	k := automata()
	d := draw(5)
	for range 300 {
		for _, states := range []int{1, 5, 300, 65537} {
			a := d.automaton(states, 8)
			wantForm(t, k, a, k.record(a))
		}
	}
	for _, name := range allNames() {
		a := api.Buchi{Props: []string{name, "!"}}
		wantForm(t, k, a, k.record(a))
	}
	a := api.Buchi{Props: names8(), States: 65536, Init: []int{0, 65535}, Edges: []api.Edge{{From: 65535, To: 65535, Must: 0xf0, Not: 0x0f}}, Final: []int{127, 128, 16383, 16384, 65535}}
	wantForm(t, k, a, k.record(a))
}

// What may not be is not written.
func TestRefusedFormulas(t *testing.T) {
	k := formulas()
	for why, f := range map[string]api.Formula{
		"nothing": {}, "no Op": with(22), "no Op at all": with(255), "a kid too few": with(api.OpAnd, prop("p")), "a kid too many": with(api.OpNot, prop("p"), prop("p")),
		"a leaf's kid": with(api.OpTrue, prop("p")), "a prop's kid": {Op: api.OpProp, Name: "p", Kids: []api.Formula{prop("q")}}, "a name of true": {Op: api.OpTrue, Name: "p"},
		"a name of not": {Op: api.OpNot, Name: "p", Kids: []api.Formula{prop("q")}}, "both times": with(api.OpAnd, with(api.OpNext, prop("p")), with(api.OpYest, prop("p"))),
		"past within future": with(api.OpUntil, prop("p"), with(api.OpOnce, prop("p"))), "no kids": with(api.OpUntil), "a wrong one deep inside": with(api.OpNot, with(api.OpNot, with(0))),
		"too deep": chain(api.OpNext, 101), "too deep, of the past": chain(api.OpYest, 101), "too great": broad(api.OpOr, 1001), "too great, of the past": broad(api.OpSince, 1001),
	} {
		wantRefused(t, k, why, f)
	}
	for _, name := range notNames() {
		wantRefused(t, k, "the name "+name, with(api.OpNot, prop(name)))
	}
	if tree.Right(chain(api.OpNext, 100)) != api.OK || tree.Size(broad(api.OpOr, 1001)) != 1001 || tree.Depth(broad(api.OpOr, 1001)) > 20 {
		t.Error("a formula of these tests is not what it is meant to be")
	}
}

func TestRefusedWords(t *testing.T) {
	k := infinite()
	for why, w := range map[string]api.Word{
		"nothing": {}, "no loop": {Stem: []uint16{1}}, "an empty loop": {Loop: []uint16{}}, "a letter of nine names": {Loop: []uint16{256}},
		"a letter of the stem": {Stem: []uint16{0, 256}, Loop: []uint16{0}}, "a great letter": {Loop: []uint16{0, 65535}},
	} {
		wantRefused(t, k, why, w)
	}
}

func TestRefusedMachines(t *testing.T) {
	k := machines()
	right := func() api.Moore {
		return api.Moore{Props: []string{"p"}, Next: [][]int{{0, 1}, {1, 0}}, Out: []api.Verdict{3, 1}}
	}
	if _, err := k.write(right()); err != api.OK {
		t.Error(err)
	}
	for why, change := range map[string]func(*api.Moore){
		"nothing": func(m *api.Moore) { *m = api.Moore{} }, "no states": func(m *api.Moore) { m.Next, m.Out = nil, nil }, "an Out too many": func(m *api.Moore) { m.Out = append(m.Out, 1) },
		"an Out too few": func(m *api.Moore) { m.Out = m.Out[:1] }, "no verdict": func(m *api.Moore) { m.Out[1] = 0 }, "another verdict": func(m *api.Moore) { m.Out[0] = 4 },
		"no state": func(m *api.Moore) { m.Next[1][1] = 2 }, "below the states": func(m *api.Moore) { m.Next[0][0] = -1 }, "a short row": func(m *api.Moore) { m.Next[0] = []int{0} },
		"a long row": func(m *api.Moore) { m.Next[1] = []int{0, 0, 0} }, "no names": func(m *api.Moore) { m.Props = nil }, "a name too many": func(m *api.Moore) { m.Props = []string{"p", "q"} },
		"one name twice": func(m *api.Moore) {
			m.Props, m.Next = []string{"p", "p"}, [][]int{{0, 0, 0, 0}, {0, 0, 0, 0}}
		},
		"nine names": func(m *api.Moore) {
			m.Props, m.Next, m.Out = append(names8(), "i"), [][]int{make([]int, 512)}, m.Out[:1]
		},
	} {
		m := right()
		change(&m)
		wantRefused(t, k, why, m)
	}
	for _, name := range notNames() {
		m := right()
		m.Props[0] = name
		wantRefused(t, k, "the name "+name, m)
	}
}

func TestRefusedAutomata(t *testing.T) {
	k := automata()
	right := func() api.Buchi {
		return api.Buchi{Props: []string{"p"}, States: 3, Init: []int{0, 2}, Final: []int{1, 2}, Edges: []api.Edge{{From: 0, To: 1, Must: 1}, {From: 0, To: 2, Not: 1}}}
	}
	if _, err := k.write(right()); err != api.OK {
		t.Error(err)
	}
	for why, change := range map[string]func(*api.Buchi){
		"below no states": func(a *api.Buchi) { *a = api.Buchi{States: -1} }, "too many states": func(a *api.Buchi) { *a = api.Buchi{States: 65537} }, "no state": func(a *api.Buchi) { a.Init[1] = 3 },
		"below the states": func(a *api.Buchi) { a.Final[0] = -1 }, "not rising": func(a *api.Buchi) { a.Init[0], a.Init[1] = 2, 0 }, "twice": func(a *api.Buchi) { a.Final[0] = 2 },
		"an edge from nowhere": func(a *api.Buchi) { a.Edges[1].From = 3 }, "an edge to nowhere": func(a *api.Buchi) { a.Edges[1].To = -1 }, "no letter": func(a *api.Buchi) { a.Edges[0].Must = 2 },
		"a bit in both": func(a *api.Buchi) { a.Edges[0].Not = 1 }, "edges that fall": func(a *api.Buchi) { slices.Reverse(a.Edges) }, "an edge twice": func(a *api.Buchi) { a.Edges[1] = a.Edges[0] },
		"one name twice": func(a *api.Buchi) { a.Props = []string{"p", "p"} }, "nine names": func(a *api.Buchi) { a.Props = append(names8(), "i") },
	} {
		a := right()
		change(&a)
		wantRefused(t, k, why, a)
	}
	for _, name := range notNames() {
		a := right()
		a.Props[0] = name
		wantRefused(t, k, "the name "+name, a)
	}
}
