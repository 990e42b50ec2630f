package moore_test

import (
	"slices"
	"testing"

	"augur/api"
	"augur/dfa"
	"augur/moore"
)

// productByHand is the chapter's machine of pairs; false: two states that are come to together are live neither.
func productByHand(can, fail api.DFA) (api.Moore, bool) {
	m := api.Moore{Props: can.Props}
	pairs := [][2]int{{0, 0}}
	for n := 0; n < len(pairs); n++ {
		c, f := pairs[n][0], pairs[n][1]
		var out api.Verdict
		if can.Live[c] {
			out |= 1 // can's alone: True
		}
		if fail.Live[f] {
			out |= 2 // fail's alone: False; both: Inconclusive
		}
		if out == 0 {
			return api.Moore{}, false
		}
		var row []int
		for letter := range 1 << len(can.Props) {
			to := [2]int{can.Next[c][letter], fail.Next[f][letter]}
			number := slices.Index(pairs, to)
			if number < 0 {
				number = len(pairs)
				pairs = append(pairs, to)
			}
			row = append(row, number)
		}
		m.Next = append(m.Next, row)
		m.Out = append(m.Out, out)
	}
	return m, true
}

func wantProduct(t *testing.T, can, fail api.DFA) bool {
	t.Helper()
	got, err := moore.Product(can, fail)
	want, is := productByHand(can, fail)
	if !is {
		wantProductRefused(t, can, fail, api.ErrArg)
		return false
	}
	if err != api.OK || !same(got, want) || moore.Check(got) != api.OK {
		t.Fatalf("Product(%+v, %+v): %+v, %v; want %+v", can, fail, got, err, want)
	}
	return true
}

func wantProductRefused(t *testing.T, can, fail api.DFA, want api.Errno) {
	t.Helper()
	if got, err := moore.Product(can, fail); err != want || !isZero(got) {
		t.Fatalf("Product(%+v, %+v): %+v, %v; want %v", can, fail, got, err, want)
	}
}

// dfa is one of 1 to so many states, of six of which so many are live.
func (d *draw) dfa(states, props, ofSix int) api.DFA {
	n := 1 + d.below(states)
	x := api.DFA{Props: names8()[:props]}
	for range n {
		row := make([]int, 1<<props)
		for letter := range row {
			row[letter] = d.below(n)
		}
		x.Next = append(x.Next, row)
		x.Live = append(x.Live, d.below(6) < ofSix)
	}
	return x
}

// allDFAs are all of so many states over so many names.
func allDFAs(states, props int) []api.DFA {
	var list []api.DFA
	for _, next := range allNexts(states, props) {
		for lives := range 1 << states {
			d := api.DFA{Props: names8()[:props], Next: next}
			for s := range states {
				d.Live = append(d.Live, lives>>s&1 == 1)
			}
			list = append(list, d)
		}
	}
	return list
}

// allNexts are all ways on between so many states.
func allNexts(states, props int) [][][]int {
	letters := 1 << props
	cells := make([]int, states*letters)
	var list [][][]int
	for {
		list = append(list, slices.Collect(slices.Chunk(slices.Clone(cells), letters)))
		i := len(cells) - 1
		for ; i >= 0 && cells[i] == states-1; i-- {
			cells[i] = 0
		}
		if i < 0 {
			return list
		}
		cells[i]++
	}
}

// All pairs of automata of at most two states over no name and over one.
func TestProductOfAllSmall(t *testing.T) {
	for props := range 2 {
		all := slices.Concat(allDFAs(1, props), allDFAs(2, props))
		var made, refused int
		for _, can := range all {
			for _, fail := range all {
				if wantProduct(t, can, fail) {
					made++
				} else {
					refused++
				}
			}
		}
		if made < 20 || refused < 20 {
			t.Errorf("over %d names: %d made, %d refused", props, made, refused)
		}
	}
}

// Greater ones, with more names.
func TestProductByHand(t *testing.T) {
	d := draw(4)
	var made, refused, many int
	for range 6000 {
		props := d.below(4)
		can, fail := d.dfa(6, props, 4), d.dfa(6, props, 4)
		if d.below(2) == 0 { // so that fewer are refused
			for s := range fail.Live {
				fail.Live[s] = true
			}
		}
		if !wantProduct(t, can, fail) {
			refused++
			continue
		}
		made++
		if m, _ := moore.Product(can, fail); len(m.Next) > 10 {
			many++
		}
	}
	if made < 1000 || refused < 1000 || many < 300 {
		t.Errorf("%d made, %d of them great, %d refused", made, many, refused)
	}
}

// What a pair says, and that behind each row it says what its two automata say of it.
func TestProductSays(t *testing.T) {
	d := draw(5)
	for range 500 {
		props := d.below(3)
		can, fail := d.dfa(5, props, 5), d.dfa(5, props, 6)
		m, err := moore.Product(can, fail)
		if err != api.OK {
			t.Fatal(err)
		}
		for u := range rows(props, 6-2*props) {
			holds, _ := dfa.Has(can, u...)
			fails, _ := dfa.Has(fail, u...)
			want := api.Inconclusive
			switch {
			case !holds:
				want = api.False
			case !fails:
				want = api.True
			}
			if s, err := moore.Run(m, u...); err != api.OK || m.Out[s] != want {
				t.Fatalf("%+v, %+v, behind %v: %+v, %d", can, fail, u, m, s)
			}
		}
	}
}

// Two states that are live neither are no fault, unless one comes to them together.
func TestProductDeadPairs(t *testing.T) {
	dead := []bool{true, false, true}
	swaps := api.DFA{Props: names8()[:1], Next: [][]int{{1, 2}, {1, 1}, {2, 2}}, Live: dead}
	other := api.DFA{Props: names8()[:1], Next: [][]int{{2, 1}, {1, 1}, {2, 2}}, Live: dead}
	m, err := moore.Product(swaps, other) // each has a dead state, but not behind one row
	wantMachine(t, "apart", m, err, machine(1, st(3, 1, 2), st(2, 1, 1), st(1, 2, 2)))
	wantProductRefused(t, swaps, swaps, api.ErrArg)
	wantProductRefused(t, other, other, api.ErrArg)
	// The first pair; and one that is come to behind many others.
	none := api.DFA{Next: [][]int{{0}}, Live: []bool{false}}
	wantProductRefused(t, none, none, api.ErrArg)
	const n = 1000
	long := api.DFA{Next: make([][]int, n), Live: make([]bool, n)}
	for s := range n {
		long.Next[s], long.Live[s] = []int{(s + 1) % n}, s < n-1
	}
	wantProductRefused(t, long, long, api.ErrArg)
	wantProductRefused(t, long, none, api.ErrArg)
}

// What is no automaton is refused first, whatever the other one is; then unlike names, whatever is live.
func TestProductErrors(t *testing.T) {
	right := api.DFA{Props: []string{"a"}, Next: [][]int{{0, 0}}, Live: []bool{true}}
	dead := api.DFA{Props: []string{"a"}, Next: [][]int{{0, 0}}, Live: []bool{false}}
	named := func(names ...string) api.DFA {
		return api.DFA{Props: names, Next: [][]int{make([]int, 1<<len(names))}, Live: []bool{true}}
	}
	for who, m := range wrong() {
		d := api.DFA{Props: m.Props, Next: m.Next, Live: make([]bool, len(m.Out))}
		if dfa.Check(d) == api.OK {
			continue // only what it says was wrong
		}
		for _, other := range []api.DFA{right, dead, named("b"), named("a", "b"), d, {}} {
			for _, two := range [][2]api.DFA{{d, other}, {other, d}} {
				if got, err := moore.Product(two[0], two[1]); err != api.ErrDFAForm || !isZero(got) {
					t.Errorf("%s: Product(%+v): %+v, %v", who, two, got, err)
				}
			}
		}
	}
	for _, other := range []api.DFA{named("b"), named(), named("a", "b"), named("b", "a"), named("A"), named("a ")} {
		for _, d := range []api.DFA{right, dead} {
			wantProductRefused(t, d, other, api.ErrArg)
			wantProductRefused(t, other, d, api.ErrArg)
		}
	}
	wantProductRefused(t, named("a", "b"), named("b", "a"), api.ErrArg)
}
