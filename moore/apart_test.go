package moore_test

import (
	"math"
	"slices"
	"testing"

	"augur/api"
	"augur/moore"
)

// apartByHand is the first row, shorter ones and of those as long lesser ones ahead, behind which two states say unlike things. (If there is one, there is one with fewer letters than states.)
func apartByHand(m api.Moore, s, t int) ([]uint16, bool) {
	for u := range rows(len(m.Props), len(m.Next)-1) {
		if m.Out[behind(m, s, u)] != m.Out[behind(m, t, u)] {
			return u, true
		}
	}
	return nil, false
}

// All machines of at most three states over one name, of four over none; all their pairs of states.
func TestApartOfAllSmall(t *testing.T) {
	for _, c := range []struct{ states, props int }{{1, 0}, {2, 0}, {3, 0}, {4, 0}, {1, 1}, {2, 1}, {3, 1}, {2, 2}} {
		for _, m := range allMachines(c.states, c.props) {
			for s := range c.states {
				for u := range c.states {
					row, apart := apartByHand(m, s, u)
					wantApart(t, m, s, u, row, apart)
				}
			}
		}
	}
}

// Greater ones: the shortest row, of several the least.
func TestApartByHand(t *testing.T) {
	d := draw(10)
	var long, none int
	for range 3000 {
		props := 1 + d.below(2)
		m := d.machine(7, props)
		if d.below(2) == 0 {
			m = shuffled(&d, d.late(2+d.below(5), props))
		}
		unlike := unlikeByHand(m)
		for s := range m.Next {
			for u := range m.Next {
				if !unlike[s][u] {
					wantApart(t, m, s, u, nil, false)
					none++
					continue
				}
				row, apart := apartByHand(m, s, u)
				wantApart(t, m, s, u, row, apart)
				if len(row) > 2 {
					long++
				}
			}
		}
	}
	if long < 500 || none < 500 {
		t.Errorf("%d rows of more than two letters, %d times none", long, none)
	}
}

// Rows of many letters, by pairs of states gone through by hand: many pairs are bound by others.
func TestApartLate(t *testing.T) {
	d := draw(11)
	longest := 0
	for range 300 {
		m := shuffled(&d, d.late(2+d.below(30), d.below(3)))
		n := len(m.Next)
		for range 20 {
			s, u := d.below(n), d.below(n)
			row, apart := apartByPairs(m, s, u)
			wantApart(t, m, s, u, row, apart)
			longest = max(longest, len(row))
		}
	}
	if longest < 15 {
		t.Errorf("the longest row has %d letters", longest)
	}
}

// apartByPairs goes by breadth through all pairs of states, each with the first row by which one comes to it.
func apartByPairs(m api.Moore, s, t int) ([]uint16, bool) {
	type came struct {
		s, t int
		row  []uint16
	}
	list := []came{{s, t, nil}}
	seen := map[[2]int]bool{{s, t}: true}
	for n := 0; n < len(list); n++ {
		x := list[n]
		if m.Out[x.s] != m.Out[x.t] {
			return x.row, true
		}
		for letter, to := range m.Next[x.s] {
			other := m.Next[x.t][letter]
			if !seen[[2]int{to, other}] {
				seen[[2]int{to, other}] = true
				list = append(list, came{to, other, append(slices.Clone(x.row), uint16(letter))})
			}
		}
	}
	return nil, false
}

// Of several shortest rows the least: letter by letter, the first one first.
func TestApartLeast(t *testing.T) {
	// Behind 0 1 and behind 1 0 they are apart; 0 0 is less, but nothing comes of it.
	m := machine(1, st(3, 2, 3), st(3, 4, 5), st(3, 6, 7), st(3, 7, 6), st(3, 6, 6), st(3, 6, 6), st(3, 6, 6), st(1, 7, 7))
	wantApart(t, m, 0, 1, []uint16{0, 1}, true)
	wantApart(t, m, 1, 0, []uint16{0, 1}, true)
	// The greatest letters, as numbers.
	wide := api.Moore{Props: names8(), Next: [][]int{make([]int, 256), make([]int, 256)}, Out: []api.Verdict{3, 3}}
	for letter := range 256 {
		wide.Next[1][letter] = 1
	}
	wide.Next = append(wide.Next, slices.Repeat([]int{2}, 256))
	wide.Out = append(wide.Out, 2)
	wantApart(t, wide, 0, 1, nil, false)
	wide.Next[1][255] = 2
	wantApart(t, wide, 0, 1, []uint16{255}, true)
	wide.Next[1][254] = 2
	wantApart(t, wide, 1, 0, []uint16{254}, true)
	wantApart(t, wide, 1, 2, nil, true)
}

// What is no state is refused, be it the one or the other.
func TestApartErrors(t *testing.T) {
	for _, m := range []api.Moore{three(), wide(nil), wide(names8())} {
		n := len(m.Next)
		for _, none := range []int{-1, n, n + 1, 256, math.MaxInt, math.MinInt, 1 << 32} {
			for _, two := range [][2]int{{none, 0}, {0, none}, {none, none}, {none, n - 1}, {none, -2}} {
				if u, is, err := moore.Apart(m, two[0], two[1]); len(u) > 0 || is || err != api.ErrArg {
					t.Errorf("Apart(%+v, %v): %v, %v, %v", m, two, u, is, err)
				}
			}
		}
		wantApart(t, m, n-1, n-1, nil, false)
	}
}

// Same: machines of one list of names that say the same behind each row, whatever their states are.
func TestSame(t *testing.T) {
	d := draw(12)
	var so, not int
	for range 6000 {
		props := d.below(3)
		a, b := d.machine(3, props), d.machine(3, props)
		want := true
		for u := range rows(props, 5) {
			if a.Out[behind(a, 0, u)] != b.Out[behind(b, 0, u)] {
				want = false
				break
			}
		}
		wantSame(t, a, b, want)
		if want {
			so++
		} else {
			not++
		}
		leastA, _ := moore.Least(a)
		leastB, _ := moore.Least(b)
		if same(leastA, leastB) != want {
			t.Fatalf("%+v, %+v: their Least: %+v, %+v", a, b, leastA, leastB)
		}
	}
	if so < 500 || not < 500 {
		t.Errorf("%d say the same, %d do not", so, not)
	}
}

// One verdict that is another one, far off; and one that is not reached.
func TestSameButOne(t *testing.T) {
	d := draw(13)
	for range 500 {
		m := d.late(2+d.below(40), d.below(3))
		n := len(m.Next)
		m.Next = append(m.Next, slices.Clone(m.Next[0]))
		m.Out = append(m.Out, 3)
		other := api.Moore{Props: m.Props, Next: m.Next, Out: slices.Clone(m.Out)}
		other.Out[n] = 1 // it is not reached
		wantSame(t, m, other, true)
		other.Out[n-1] = 3
		wantSame(t, m, other, false)
	}
}

// Unlike lists of names: not the same, though they say the same.
func TestSameNames(t *testing.T) {
	lists := [][]string{nil, {"a"}, {"b"}, {"A"}, {"a "}, {"a", "b"}, {"b", "a"}, {"a", "b", "c"}, names8()}
	for i, a := range lists {
		for j, b := range lists {
			wantSame(t, wide(a), wide(b), i == j)
		}
	}
	wantSame(t, wide(nil), wide([]string{}), true)
}
