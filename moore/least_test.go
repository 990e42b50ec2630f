package moore_test

import (
	"slices"
	"testing"

	"augur/api"
	"augur/moore"
)

// reachByHand is m without the states that no row leads to, the others in their order.
func reachByHand(m api.Moore) api.Moore {
	is := make([]bool, len(m.Next))
	is[0] = true
	for range m.Next {
		for s, row := range m.Next {
			for _, to := range row {
				is[to] = is[to] || is[s]
			}
		}
	}
	var order []int
	for s := range m.Next {
		if is[s] {
			order = append(order, s)
		}
	}
	return numbered(m, order)
}

// numbered are these states of m, to which all of their ways lead, in this order.
func numbered(m api.Moore, order []int) api.Moore {
	r := api.Moore{Props: m.Props}
	for _, s := range order {
		row := make([]int, len(m.Next[s]))
		for letter, to := range m.Next[s] {
			row[letter] = slices.Index(order, to)
		}
		r.Next = append(r.Next, row)
		r.Out = append(r.Out, m.Out[s])
	}
	return r
}

// unlikeByHand tells of any two states whether they say unlike things behind some row: unlike verdicts, or by some letter two states that do.
func unlikeByHand(m api.Moore) [][]bool {
	n := len(m.Next)
	unlike := make([][]bool, n)
	for s := range n {
		unlike[s] = make([]bool, n)
		for t := range n {
			unlike[s][t] = m.Out[s] != m.Out[t]
		}
	}
	for again := true; again; {
		again = false
		for s := range n {
			for t := range n {
				for letter, to := range m.Next[s] {
					if !unlike[s][t] && unlike[to][m.Next[t][letter]] {
						unlike[s][t], again = true, true
					}
				}
			}
		}
	}
	return unlike
}

// leastByHand is the chapter's Least: for all states that say the same the first one of them that is come to.
func leastByHand(m api.Moore) api.Moore {
	unlike := unlikeByHand(m)
	like := func(order []int, s int) int {
		return slices.IndexFunc(order, func(t int) bool { return !unlike[s][t] })
	}
	order := []int{0}
	for n := 0; n < len(order); n++ {
		for _, to := range m.Next[order[n]] {
			if like(order, to) < 0 {
				order = append(order, to)
			}
		}
	}
	r := api.Moore{Props: m.Props}
	for _, s := range order {
		var row []int
		for _, to := range m.Next[s] {
			row = append(row, like(order, to))
		}
		r.Next = append(r.Next, row)
		r.Out = append(r.Out, m.Out[s])
	}
	return r
}

// allMachines are all of so many states over so many names.
func allMachines(states, props int) []api.Moore {
	outs := [][]api.Verdict{nil}
	for range states {
		var more [][]api.Verdict
		for _, out := range outs {
			for v := api.True; v <= api.Inconclusive; v++ {
				more = append(more, append(slices.Clone(out), v))
			}
		}
		outs = more
	}
	var list []api.Moore
	for _, next := range allNexts(states, props) {
		for _, out := range outs {
			list = append(list, api.Moore{Props: names8()[:props], Next: next, Out: out})
		}
	}
	return list
}

// All machines of at most three states over one name, of four over none, of two over two.
func TestAllSmall(t *testing.T) {
	for _, c := range []struct{ states, props int }{{1, 0}, {2, 0}, {3, 0}, {4, 0}, {1, 1}, {2, 1}, {3, 1}, {1, 2}, {2, 2}} {
		for _, m := range allMachines(c.states, c.props) {
			wantReach(t, m, reachByHand(m))
			wantLeast(t, m, leastByHand(m))
		}
	}
}

// Greater ones, with more names.
func TestByHand(t *testing.T) {
	d := draw(6)
	var lost, merged, kept int
	for range 6000 {
		m := d.machine(3+d.below(20), d.below(4))
		reach, least := reachByHand(m), leastByHand(m)
		wantReach(t, m, reach)
		wantLeast(t, m, least)
		if len(reach.Next) < len(m.Next) {
			lost++
		}
		if len(least.Next) < len(reach.Next) {
			merged++
		}
		if n := len(least.Next); n > 3 && n == len(m.Next) {
			kept++
		}
	}
	if lost < 500 || merged < 500 || kept < 500 {
		t.Errorf("%d times states not reached, %d times some that say the same, %d times least already", lost, merged, kept)
	}
}

// late is a machine whose states are told apart one by one: it says something at the end of a long way, which others join.
func (d *draw) late(n, props int) api.Moore {
	m := api.Moore{Props: names8()[:props]}
	for s := range n {
		row := make([]int, 1<<props)
		for letter := range row {
			row[letter] = min(n-1, s+1)
			if d.below(8) == 0 {
				row[letter] = min(n-1, s+1+d.below(4))
			}
		}
		m.Next = append(m.Next, row)
		m.Out = append(m.Out, api.Inconclusive)
	}
	m.Out[n-1] = api.Verdict(1 + d.below(2))
	return m
}

// Machines that need many rounds of parting: where a few states leave a great part, and where most of a part leave a few.
func TestLateByHand(t *testing.T) {
	d := draw(7)
	for range 400 {
		props := d.below(3)
		m := d.late(2+d.below(40), props)
		n := len(m.Next)
		for range d.below(60) { // who goes to one of the way, and many of them to the same
			row := make([]int, 1<<props)
			for letter := range row {
				row[letter] = max(0, n-1-d.below(6)*d.below(8))
			}
			m.Next = append(m.Next, row)
			m.Out = append(m.Out, api.Inconclusive)
		}
		m = shuffled(&d, m)
		wantLeast(t, m, leastByHand(m))
	}
}

// shuffled is m with its states numbered anew, but for the first one.
func shuffled(d *draw, m api.Moore) api.Moore {
	order := make([]int, len(m.Next))
	for s := range order {
		order[s] = s
	}
	for s := 1; s < len(order); s++ {
		to := 1 + d.below(s)
		order[s], order[to] = order[to], order[s]
	}
	return numbered(m, order)
}

// grown says the same as m, with more states: some twice, some that are not reached, all in another order.
func grown(d *draw, m api.Moore) api.Moore {
	n := len(m.Next)
	twin := make([]int, 0, 2*n) // of each state that of m that it is like
	for s := range n {
		twin = append(twin, s)
	}
	for range d.below(n + 1) {
		twin = append(twin, d.below(n))
	}
	g := api.Moore{Props: m.Props}
	for _, s := range twin {
		row := make([]int, len(m.Next[s]))
		for letter, to := range m.Next[s] {
			for row[letter] = d.below(len(twin)); twin[row[letter]] != to; {
				row[letter] = d.below(len(twin))
			}
		}
		g.Next = append(g.Next, row)
		g.Out = append(g.Out, m.Out[s])
	}
	return shuffled(d, g)
}

// T3: machines that say the same have one Least; Least of Least, and of Reach, is Least.
func TestOneLeast(t *testing.T) {
	d := draw(8)
	more := 0
	for range 3000 {
		m := d.machine(12, d.below(4))
		least, err := moore.Least(m)
		if err != api.OK {
			t.Fatal(err)
		}
		wantLeast(t, least, least)
		wantReach(t, least, least)
		reach, err := moore.Reach(m)
		if err != api.OK {
			t.Fatal(err)
		}
		wantLeast(t, reach, least)
		wantReach(t, reach, reach)
		for range 3 {
			g := grown(&d, m)
			if len(g.Next) > len(m.Next) {
				more++
			}
			wantLeast(t, g, least)
			wantSame(t, g, m, true)
			wantSame(t, g, least, true)
		}
	}
	if more < 1000 {
		t.Errorf("%d have more states", more)
	}
}

// T3: Least says behind each row what the machine says; all of its states are reached, in the order of breadth; any two are Apart.
func TestLeastSays(t *testing.T) {
	d := draw(9)
	for range 1500 {
		props := d.below(3)
		m := d.machine(7, props)
		least, err := moore.Least(m)
		if err != api.OK || !slices.Equal(least.Props, m.Props) {
			t.Fatal(least, err)
		}
		for u := range rows(props, 7-2*props) {
			if got, want := least.Out[behind(least, 0, u)], m.Out[behind(m, 0, u)]; got != want {
				t.Fatalf("%+v behind %v: %d, want %d", m, u, got, want)
			}
		}
		wantBreadth(t, least)
		for s := range least.Next {
			for u := range least.Next {
				if _, apart, err := moore.Apart(least, s, u); apart != (s != u) || err != api.OK {
					t.Fatalf("%+v: %d and %d: %v, %v", least, s, u, apart, err)
				}
			}
		}
	}
}

// wantBreadth wants all states to be numbered as one comes to them.
func wantBreadth(t *testing.T, m api.Moore) {
	t.Helper()
	next := 1
	for s, row := range m.Next {
		if s >= next {
			t.Fatalf("%+v: %d is not come to", m, s)
		}
		for _, to := range row {
			if to > next {
				t.Fatalf("%+v: %d is come to ahead of %d", m, to, next)
			}
			next = max(next, to+1)
		}
	}
}

// T3: no machine that says the same has fewer states: all of those are held against it.
func TestNoneLess(t *testing.T) {
	for _, c := range []struct{ states, props int }{{4, 0}, {3, 1}} {
		var fewer []api.Moore
		for n := 1; n < c.states; n++ {
			fewer = append(fewer, allMachines(n, c.props)...)
		}
		u := slices.Collect(rows(c.props, 2*c.states-2)) // if none of these parts two machines, no row does
		says := func(m api.Moore) string {
			text := make([]byte, len(u))
			for i, row := range u {
				text[i] = byte(m.Out[behind(m, 0, row)])
			}
			return string(text)
		}
		least := map[string]int{} // of each way to speak how few states it takes
		for _, m := range fewer {
			if text := says(m); least[text] == 0 {
				least[text] = len(m.Next)
			}
		}
		for _, m := range allMachines(c.states, c.props) {
			want := least[says(m)]
			if want == 0 {
				want = c.states
			}
			if got, err := moore.Least(m); err != api.OK || len(got.Next) != want {
				t.Fatalf("Least(%+v): %+v, %v; %d states are enough", m, got, err, want)
			}
		}
	}
}
