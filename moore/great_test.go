package moore_test

import (
	"slices"
	"testing"

	"augur/api"
	"augur/moore"
)

// made is a machine of so many states whose ways and verdicts are told.
func made(props, n int, next func(state, letter int) int, says func(state int) api.Verdict) api.Moore {
	m := api.Moore{Props: names8()[:props], Next: make([][]int, n), Out: make([]api.Verdict, n)}
	for s := range n {
		m.Next[s] = make([]int, 1<<props)
		for letter := range m.Next[s] {
			m.Next[s][letter] = next(s, letter)
		}
		m.Out[s] = says(s)
	}
	return m
}

// only says True at one state, Inconclusive at all others.
func only(at int) func(int) api.Verdict {
	return func(s int) api.Verdict {
		if s == at {
			return api.True
		}
		return api.Inconclusive
	}
}

// A long way: its states are told apart one by one, from its end.
func TestLongWay(t *testing.T) {
	for _, c := range []struct{ props, n int }{{0, 300000}, {1, 100000}, {8, 4000}} {
		m := made(c.props, c.n, func(s, _ int) int { return min(s+1, c.n-1) }, only(c.n-1))
		wantGreatLeast(t, m, m)
		u, apart, err := moore.Apart(m, 0, 1)
		if !apart || err != api.OK || !slices.Equal(u, make([]uint16, c.n-2)) {
			t.Errorf("over %d names: a row of %d letters, %v, %v", c.props, len(u), apart, err)
		}
		// A way without an end: all of its states say the same.
		m.Out[c.n-1] = api.Inconclusive
		wantGreatLeast(t, m, made(c.props, 1, func(int, int) int { return 0 }, only(-1)))
		if u, apart, err := moore.Apart(m, 0, c.n-1); apart || err != api.OK || len(u) > 0 {
			t.Errorf("over %d names: a row of %d letters, %v, %v", c.props, len(u), apart, err)
		}
	}
}

// wantGreatLeast is wantLeast and wantSame, which tell less.
func wantGreatLeast(t *testing.T, m, want api.Moore) {
	t.Helper()
	got, err := moore.Least(m)
	if err != api.OK || !same(got, want) {
		t.Fatalf("of %d states over %d names: %d, %v; want %d", len(m.Next), len(m.Props), len(got.Next), err, len(want.Next))
	}
	if is, err := moore.Same(m, got); !is || err != api.OK {
		t.Fatalf("of %d states over %d names: %v, %v", len(m.Next), len(m.Props), is, err)
	}
}

// A long ring, gone round the other way by the numbers of its states.
func TestLongRing(t *testing.T) {
	const n = 200000
	forth := made(0, n, func(s, _ int) int { return (s + 1) % n }, only(n-1))
	back := made(0, n, func(s, _ int) int { return (s + n - 1) % n }, only(1))
	wantGreatLeast(t, forth, forth)
	wantGreatLeast(t, back, forth)
	// A ring that is many times a shorter one.
	short := made(0, 5, func(s, _ int) int { return (s + 1) % 5 }, only(4))
	many := made(0, n, func(s, _ int) int { return (s + 1) % n }, func(s int) api.Verdict { return short.Out[s%5] })
	wantGreatLeast(t, many, short)
	if is, err := moore.Same(forth, many); is || err != api.OK {
		t.Errorf("%v, %v", is, err)
	}
}

// A great part that one state after the other leaves, each because of one of a long way.
func TestLeaveOneByOne(t *testing.T) {
	const n, way = 20000, 10000
	next := func(s, letter int) int {
		switch {
		case s < way && letter == 0:
			return min(s+1, way-1)
		case s < way:
			return way + s // so that all are reached
		case letter == 0:
			return s - way
		}
		return way - 1
	}
	m := made(1, n, next, only(way-1))
	if got, err := moore.Least(m); err != api.OK || len(got.Next) != n { // by 1 and by 0 one comes to unlike states of the way
		t.Errorf("%d states, %v", len(got.Next), err)
	}
	for _, two := range [][2]int{{way, way + 1}, {0, 1}, {way + 5, n - 5}} {
		u, apart, err := moore.Apart(m, two[0], two[1])
		if err != api.OK || !apart || m.Out[behind(m, two[0], u)] == m.Out[behind(m, two[1], u)] {
			t.Errorf("%v: a row of %d letters, %v, %v", two, len(u), apart, err)
		}
	}
}

// Many names, many states, ways that look like anything.
func TestGreatDrawn(t *testing.T) {
	d := draw(18)
	m := made(8, 3000, func(int, int) int { return d.below(3000) }, func(int) api.Verdict { return api.Verdict(1 + d.below(3)) })
	least, err := moore.Least(m)
	if err != api.OK {
		t.Fatal(err)
	}
	wantBreadth(t, least)
	wantGreatLeast(t, shuffled(&d, m), least)
	m = made(1, 50000, func(int, int) int { return d.below(50000) }, only(49999))
	least, err = moore.Least(m)
	if err != api.OK {
		t.Fatal(err)
	}
	wantBreadth(t, least)
	wantGreatLeast(t, m, least)
	wantGreatLeast(t, least, least)
}

// More than 65536 states that are told apart at once, by the numbers of the parts to which they go alone.
func TestManyParts(t *testing.T) {
	const n = 140000 // twice: the first ones are a tree, each has one of the others
	const sink = 2 * n
	next := func(s, letter int) int {
		switch {
		case s >= sink:
			return s
		case s >= n: // its number, written with 3 signs
			number := s - n
			for range letter {
				number /= 3
			}
			return sink + number%3
		case letter > 0 && 2*s+letter < n && letter < 3:
			return 2*s + letter
		}
		return n + s
	}
	says := func(s int) api.Verdict {
		if s < sink {
			return api.Inconclusive
		}
		return api.Verdict(1 + s - sink)
	}
	m := made(4, sink+3, next, says)
	least, err := moore.Least(m)
	if err != api.OK || len(least.Next) != len(m.Next) {
		t.Fatalf("%d states, %v", len(least.Next), err)
	}
	wantBreadth(t, least)
	if is, err := moore.Same(m, least); !is || err != api.OK {
		t.Fatalf("%v, %v", is, err)
	}
}

// The pairs of two rings whose lengths have nothing in common: as many as both lengths, one times the other.
func TestGreatProduct(t *testing.T) {
	ring := func(n int) api.DFA {
		d := api.DFA{Next: make([][]int, n), Live: make([]bool, n)}
		for s := range n {
			d.Next[s], d.Live[s] = []int{(s + 1) % n}, true
		}
		return d
	}
	m, err := moore.Product(ring(499), ring(500))
	if err != api.OK || len(m.Next) != 499*500 || m.Next[499*500-1][0] != 0 || m.Next[7][0] != 8 {
		t.Fatalf("%d states, %v", len(m.Next), err)
	}
	wantGreatLeast(t, m, machine(0, st(3, 0)))
	can, fail := ring(499), ring(500)
	can.Live[498], fail.Live[499] = false, false // they meet at the end alone
	if m, err := moore.Product(can, fail); err != api.ErrArg || !isZero(m) {
		t.Errorf("%d states, %v", len(m.Next), err)
	}
}
