package explain_test

import (
	"slices"
	"testing"

	"augur/api"
	"augur/explain"
)

// nearestByHand is the first row, shorter ones and of those as long lesser ones ahead, behind which a state says v. (If there is one, there is one with fewer letters than states.)
func nearestByHand(m api.Moore, state int, v api.Verdict) ([]uint16, bool) {
	for length := range len(m.Next) {
		for _, u := range rows(len(m.Props), length) {
			if m.Out[behind(m, state, u...)] == v {
				return u, true
			}
		}
	}
	return nil, false
}

// reached are the states to which one comes from a state.
func reached(m api.Moore, state int) []bool {
	is := make([]bool, len(m.Next))
	is[state] = true
	for range m.Next {
		for s, row := range m.Next {
			for _, to := range row {
				is[to] = is[to] || is[s]
			}
		}
	}
	return is
}

func deadByHand(m api.Moore) []int {
	var dead []int
	for state := range m.Next {
		sure := false
		for s, is := range reached(m, state) {
			sure = sure || is && m.Out[s] != api.Inconclusive
		}
		if !sure {
			dead = append(dead, state)
		}
	}
	return dead
}

// allMachines are all of so many states over so many names.
func allMachines(states, props int) []api.Moore {
	nexts := [][][]int{nil}
	for range states {
		var more [][][]int
		for _, next := range nexts {
			for _, row := range allRows(states, 1<<props) {
				more = append(more, append(slices.Clone(next), row))
			}
		}
		nexts = more
	}
	var list []api.Moore
	for _, next := range nexts {
		for _, out := range allRows(3, states) {
			m := api.Moore{Props: names8()[:props], Next: next}
			for _, v := range out {
				m.Out = append(m.Out, api.Verdict(1+v))
			}
			list = append(list, m)
		}
	}
	return list
}

// allRows are all rows of that length of numbers below n.
func allRows(n, length int) [][]int {
	list := [][]int{nil}
	for range length {
		var longer [][]int
		for _, row := range list {
			for i := range n {
				longer = append(longer, append(slices.Clone(row), i))
			}
		}
		list = longer
	}
	return list
}

// All machines of at most three states over one name, of four over none, of two over two; all their states and verdicts.
func TestNearestOfAllSmall(t *testing.T) {
	for _, c := range []struct{ states, props int }{{1, 0}, {2, 0}, {3, 0}, {4, 0}, {1, 1}, {2, 1}, {3, 1}, {1, 2}, {2, 2}} {
		for _, m := range allMachines(c.states, c.props) {
			wantAll(t, m)
		}
	}
}

// wantAll wants all rows of a small machine, and its dead states, as they are found by hand; it tells how long the longest row is.
func wantAll(t *testing.T, m api.Moore) int {
	t.Helper()
	longest := 0
	for state := range m.Next {
		for v := api.True; v <= api.Inconclusive; v++ {
			row, found := nearestByHand(m, state, v)
			wantNearest(t, m, state, v, row, found)
			longest = max(longest, len(row))
		}
	}
	wantDead(t, m, deadByHand(m)...)
	return longest
}

// Greater ones, over more names.
func TestNearestByHand(t *testing.T) {
	d := draw(21)
	var long, dead, none int
	for range 4000 {
		m := d.machine(6, d.below(3))
		if wantAll(t, m) > 2 {
			long++
		}
		if n := len(deadByHand(m)); n > 0 && n < len(m.Next) {
			dead++
		}
		if len(deadByHand(m)) == 0 {
			none++
		}
	}
	if long < 200 || dead < 300 || none < 300 {
		t.Errorf("%d times a row of more than two letters, %d times some are dead, %d times none", long, dead, none)
	}
}

// byPairs is the first row by which one comes to each state, by breadth; of those as long the least.
func byPairs(m api.Moore, state int) map[int][]uint16 {
	first := map[int][]uint16{state: {}}
	for length := 0; ; length++ {
		found := map[int][]uint16{}
		for s, row := range first {
			if len(row) != length {
				continue
			}
			for letter, to := range m.Next[s] {
				longer := append(slices.Clone(row), uint16(letter))
				_, known := first[to]
				if old, is := found[to]; !known && (!is || slices.Compare(longer, old) < 0) {
					found[to] = longer
				}
			}
		}
		if len(found) == 0 {
			return first
		}
		for s, row := range found {
			first[s] = row
		}
	}
}

// Long rows, and many of one length: the least one, letter by letter, whatever the states' numbers are.
func TestNearestLong(t *testing.T) {
	d := draw(22)
	longest := 0
	for range 300 {
		n := 20 + d.below(60)
		m := api.Moore{Props: names8()[:1+d.below(3)], Next: make([][]int, n), Out: slices.Repeat([]api.Verdict{3}, n)}
		number := shuffled(&d, n)
		for s := range n { // from each to a few of those behind it: there are many ways
			m.Next[number[s]] = make([]int, 1<<len(m.Props))
			for letter := range m.Next[number[s]] {
				m.Next[number[s]][letter] = number[min(n-1, s+d.below(4))]
			}
		}
		for range 3 {
			m.Out[number[n-1-d.below(n/3)]] = api.Verdict(1 + d.below(2))
		}
		for _, state := range []int{number[0], number[n/2], d.below(n)} {
			first := byPairs(m, state)
			for v := api.True; v <= api.Inconclusive; v++ {
				var want []uint16
				found := false
				for s, row := range first {
					if m.Out[s] == v && (!found || len(row) < len(want) || len(row) == len(want) && slices.Compare(row, want) < 0) {
						want, found = row, true
					}
				}
				wantNearest(t, m, state, v, want, found)
				longest = max(longest, len(want))
			}
		}
	}
	if longest < 20 {
		t.Errorf("the longest row has %d letters", longest)
	}
}

// shuffled are the numbers below n, in some order.
func shuffled(d *draw, n int) []int {
	list := make([]int, n)
	for i := range list {
		list[i] = i
		to := d.below(i + 1)
		list[i], list[to] = list[to], list[i]
	}
	return list
}

// The least row is not the one by the least states.
func TestLeastLetters(t *testing.T) {
	a, b := names8()[:1], names8()[:2]
	// By 0 to the state 2, by 1 to the state 1; from both to the state 3.
	wantNearest(t, api.Moore{Props: a, Next: [][]int{{2, 1}, {3, 3}, {3, 3}, {3, 3}}, Out: []api.Verdict{3, 3, 3, 1}}, 0, 1, []uint16{0, 0}, true)
	// Two goals as far: the one with the greater number by the lesser letter.
	wantNearest(t, api.Moore{Props: a, Next: [][]int{{2, 1}, {1, 1}, {2, 2}}, Out: []api.Verdict{3, 2, 2}}, 0, 2, []uint16{0}, true)
	// The lesser first letter wins over the lesser second one: by 0 3, not by 1 0.
	wantNearest(t, api.Moore{Props: b, Next: [][]int{{2, 1, 1, 1}, {3, 0, 0, 0}, {0, 0, 0, 3}, {3, 3, 3, 3}}, Out: []api.Verdict{3, 3, 3, 1}}, 0, 1, []uint16{0, 3}, true)
	// A way that begins less, but is longer.
	wantNearest(t, api.Moore{Props: a, Next: [][]int{{1, 2}, {2, 1}, {2, 2}}, Out: []api.Verdict{3, 3, 1}}, 0, 1, []uint16{1}, true)
	// The greatest letter there is.
	m := api.Moore{Props: names8(), Next: [][]int{make([]int, 256), slices.Repeat([]int{1}, 256)}, Out: []api.Verdict{3, 2}}
	wantNearest(t, m, 0, 2, nil, false)
	wantDead(t, m, 0)
	m.Next[0][255] = 1
	wantNearest(t, m, 0, 2, []uint16{255}, true)
	wantDead(t, m)
	m.Next[0][128] = 1
	wantNearest(t, m, 0, 2, []uint16{128}, true)
}

// States that are not reached count, too: of them Nearest is asked, and of them some are dead.
func TestNotReached(t *testing.T) {
	m := api.Moore{Props: names8()[:1], Next: [][]int{{0, 0}, {2, 1}, {2, 0}, {3, 3}, {4, 3}}, Out: []api.Verdict{1, 3, 3, 3, 3}}
	wantNearest(t, m, 1, 1, []uint16{0, 1}, true)
	wantNearest(t, m, 0, 3, nil, false)
	wantDead(t, m, 3, 4)
	// What is said need not stay so: a state that says True is not dead, though only dead ones come behind it.
	m = api.Moore{Props: names8()[:1], Next: [][]int{{1, 1}, {1, 1}}, Out: []api.Verdict{1, 3}}
	wantDead(t, m, 1)
	wantNearest(t, m, 1, 1, nil, false)
	wantNearest(t, m, 0, 3, []uint16{0}, true)
}

// From a dead state no verdict is Nearest; from each other one is.
func TestDeadAndNearest(t *testing.T) {
	d := draw(23)
	for range 2000 {
		m := d.machine(12, d.below(3))
		dead, err := explain.Dead(m)
		if err != api.OK {
			t.Fatal(err)
		}
		for state := range m.Next {
			_, isTrue, _ := explain.Nearest(m, state, api.True)
			_, isFalse, _ := explain.Nearest(m, state, api.False)
			if slices.Contains(dead, state) == (isTrue || isFalse) {
				t.Fatalf("%+v: %d is dead: %v; nearest: %v, %v", m, state, slices.Contains(dead, state), isTrue, isFalse)
			}
		}
	}
}
