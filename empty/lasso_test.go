package empty_test

import (
	"iter"
	"math"
	"slices"
	"testing"

	"augur/api"
)

const never = math.MaxInt

// waysByHand is how many edges a shortest way of one at least from each state to each one has; never, if there is none.
func waysByHand(a api.Buchi) [][]int {
	ways := make([][]int, a.States)
	for i := range ways {
		ways[i] = slices.Repeat([]int{never}, a.States)
	}
	for _, e := range a.Edges {
		ways[e.From][e.To] = 1
	}
	for k := range ways {
		for i := range ways {
			for j := range ways {
				if ways[i][k] != never && ways[k][j] != never {
					ways[i][j] = min(ways[i][j], ways[i][k]+ways[k][j])
				}
			}
		}
	}
	return ways
}

// stepByHand are the states to which an edge goes by a letter from one of these.
func stepByHand(a api.Buchi, from []int, letter uint16) []int {
	var list []int
	for _, e := range a.Edges {
		if slices.Contains(from, e.From) && letter|e.Must == letter && letter&^e.Not == letter {
			list = append(list, e.To)
		}
	}
	slices.Sort(list)
	return slices.Compact(list)
}

// rowByHand is the first row of so many letters, of all in their order, by which one can go from one of these states to another one.
func rowByHand(a api.Buchi, from []int, to, length int) ([]uint16, bool) {
	if length == 0 {
		return nil, slices.Contains(from, to)
	}
	for letter := range uint16(1) << len(a.Props) {
		behind := stepByHand(a, from, letter)
		if len(behind) == 0 {
			continue
		}
		if rest, found := rowByHand(a, behind, to, length-1); found {
			return append([]uint16{letter}, rest...), true
		}
	}
	return nil, false
}

// lassoByHand is the least lasso by the chapter's words; without a loop, if there is none.
func lassoByHand(t *testing.T, a api.Buchi, states []int) api.Word {
	t.Helper()
	ways := waysByHand(a)
	taken, d, c := -1, 0, 0
	for _, q := range a.Final {
		far := never
		for _, s := range states {
			far = min(far, ways[s][q])
			if s == q {
				far = 0
			}
		}
		ring := ways[q][q]
		if far == never || ring == never {
			continue
		}
		if taken < 0 || far+ring < d+c || far+ring == d+c && far < d {
			taken, d, c = q, far, ring
		}
	}
	if taken < 0 {
		return api.Word{}
	}
	stem, found := rowByHand(a, states, taken, d)
	loop, found2 := rowByHand(a, []int{taken}, taken, c)
	if !found || !found2 || len(stem) != d || len(loop) != c {
		t.Fatalf("by hand: %+v, %v", a, states)
	}
	return api.Word{Stem: stem, Loop: loop}
}

// liveByHand are the states from which some lasso goes.
func liveByHand(a api.Buchi) []int {
	ways := waysByHand(a)
	var live []int
	for s := range a.States {
		if slices.ContainsFunc(a.Final, func(q int) bool { return ways[q][q] != never && (s == q || ways[s][q] != never) }) {
			live = append(live, s)
		}
	}
	return live
}

// small goes through all automata of so many states without names.
func small(n int) iter.Seq[api.Buchi] {
	return func(yield func(api.Buchi) bool) {
		for code := range 1 << (n*n + n) {
			a := api.Buchi{States: n}
			for bit := range n*n + n {
				switch {
				case code>>bit&1 == 0:
				case bit < n*n:
					a.Edges = append(a.Edges, api.Edge{From: bit / n, To: bit % n})
				default:
					a.Final = append(a.Final, bit-n*n)
				}
			}
			if !yield(a) {
				return
			}
		}
	}
}

// All automata of at most 3 states without names, from all sets of states.
func TestSmallByHand(t *testing.T) {
	for n := range 4 {
		for a := range small(n) {
			live := liveByHand(a)
			for code := range 1 << n {
				a.Init = nil
				for q := range n {
					if code>>q&1 == 1 {
						a.Init = append(a.Init, q)
					}
				}
				wantFrom(t, a, a.Init, lassoByHand(t, a, a.Init))
				wantLive(t, a, live)
			}
		}
	}
}

// Greater ones with names, from states in any order and several times.
func TestByHand(t *testing.T) {
	d := draw(1)
	var found, none, stems int
	for _, states := range []int{4, 6, 9} {
		for range 4000 {
			props := d.below(4)
			a := d.automaton(states, props)
			wantLive(t, a, liveByHand(a))
			var from []int
			for range d.below(4) {
				from = append(from, d.below(a.States))
			}
			want := lassoByHand(t, a, from)
			wantFrom(t, a, from, want)
			wantFrom(t, a, a.Init, lassoByHand(t, a, a.Init))
			switch {
			case len(want.Loop) == 0:
				none++
			case len(want.Stem) > 1:
				stems++
				fallthrough
			default:
				found++
			}
		}
	}
	if found < 1000 || none < 1000 || stems < 200 {
		t.Errorf("%d lassos, %d of them with a stem of two or more, %d times none", found, stems, none)
	}
}

// sparse has few edges, so that ways and rings are long, and many final states.
func (d *draw) sparse(states, props int) api.Buchi {
	n := 2 + d.below(states-1)
	var edges []api.Edge
	for q := range n {
		edges = append(edges, api.Edge{From: q, To: (q + 1) % n, Must: uint16(d.below(1 << props))})
	}
	for range d.below(4) {
		edges = append(edges, api.Edge{From: d.below(n), To: d.below(n)})
	}
	order := below(n) // other numbers for all states
	for i := range order {
		j := d.below(i + 1)
		order[i], order[j] = order[j], order[i]
	}
	for i, e := range edges {
		edges[i].From, edges[i].To = order[e.From], order[e.To]
	}
	return automaton(props, n, d.some(n, 1+d.below(5)), edges...)
}

// Long rings, of which one is cut behind the other while the least is sought.
func TestSparseByHand(t *testing.T) {
	d := draw(2)
	for range 10000 {
		a := d.sparse(14, d.below(2))
		from := d.some(a.States, 1+d.below(5))
		wantFrom(t, a, from, lassoByHand(t, a, from))
	}
}

// Which final state is taken: by d + c, then by d, then by its number.
func TestWhichState(t *testing.T) {
	e := func(from, to int, must uint16) api.Edge { return api.Edge{From: from, To: to, Must: must} }
	for _, c := range []struct {
		who   string
		a     api.Buchi
		from  []int
		taken api.Word
	}{
		// State 1: d 1, c 3; state 4: d 2, c 1.
		{"the least sum, though it is farther", automaton(1, 5, []int{1, 4}, e(0, 1, 1), e(1, 2, 1), e(2, 3, 1), e(3, 1, 1), e(0, 2, 0), e(2, 4, 0), e(4, 4, 0)), []int{0}, word([]uint16{0, 0}, 0)},
		// State 2: d 0, c 2; state 1: d 1, c 1: the same sum, and letters that are less.
		{"the least d, though its number and its letters are greater", automaton(1, 4, []int{1, 2}, e(2, 3, 1), e(3, 2, 1), e(2, 1, 0), e(1, 1, 0)), []int{2}, word(nil, 1, 1)},
		// States 1 and 2: d 1, c 1.
		{"the least state, though its letters are greater", automaton(1, 3, []int{1, 2}, e(0, 1, 1), e(1, 1, 1), e(0, 2, 0), e(2, 2, 0)), []int{0}, word([]uint16{1}, 1)},
		{"of two beginnings the least state", automaton(1, 3, []int{1, 2}, e(1, 1, 1), e(2, 2, 0)), []int{2, 1}, word(nil, 1)},
		{"of two beginnings the shorter ring", automaton(1, 3, []int{1, 2}, e(1, 0, 0), e(0, 1, 0), e(2, 2, 1)), []int{1, 2}, word(nil, 1)},
		{"a final state without a ring is none", automaton(1, 3, []int{0, 1, 2}, e(0, 1, 1), e(1, 2, 1), e(2, 2, 1)), []int{0}, word([]uint16{1, 1}, 1)},
		{"a ring without a final state is none", automaton(1, 3, []int{2}, e(0, 0, 0), e(0, 1, 0), e(1, 1, 0), e(1, 2, 0), e(2, 2, 1)), []int{0}, word([]uint16{0, 0}, 1)},
		{"what is not reached is not taken", automaton(1, 3, []int{0, 2}, e(0, 0, 0), e(1, 2, 1), e(2, 1, 1)), []int{1}, word([]uint16{1}, 1, 1)},
		// Final 0 (d 0, c 4) is on the ring of final 2 (d 2, c 2): 0 1 2 3 0 and 2 3 2; the same sum.
		{"a ring through one that came ahead", automaton(0, 4, []int{0, 2}, e(0, 1, 0), e(1, 2, 0), e(2, 3, 0), e(3, 0, 0), e(3, 2, 0)), []int{0}, word(nil, 0, 0, 0, 0)},
		// The same with one more state on the great ring: 5 against 2 + 2.
		{"a shorter ring beside one that came ahead", automaton(0, 5, []int{0, 2}, e(0, 1, 0), e(1, 2, 0), e(2, 3, 0), e(3, 4, 0), e(4, 0, 0), e(3, 2, 0)), []int{0}, word([]uint16{0, 0}, 0, 0)},
	} {
		if hand := lassoByHand(t, c.a, c.from); !sameWord(hand, c.taken) {
			t.Fatalf("%s: by hand %v", c.who, hand)
		}
		wantFrom(t, c.a, c.from, c.taken)
	}
}

// Which rows are taken: the least letter by letter, of all ways that are as short.
func TestWhichRow(t *testing.T) {
	e := func(from, to int, must, not uint16) api.Edge {
		return api.Edge{From: from, To: to, Must: must, Not: not}
	}
	for _, c := range []struct {
		who  string
		a    api.Buchi
		from []int
		want api.Word
	}{
		{"by a state of a greater number", automaton(2, 4, []int{3}, e(0, 1, 2, 0), e(1, 3, 0, 0), e(0, 2, 1, 0), e(2, 3, 3, 0), e(3, 3, 0, 3)), []int{0}, word([]uint16{1, 3}, 0)},
		{"the first letter is alike, the second tells", automaton(2, 4, []int{3}, e(0, 1, 1, 0), e(1, 3, 3, 0), e(0, 2, 1, 0), e(2, 3, 2, 0), e(3, 3, 0, 0)), []int{0}, word([]uint16{1, 2}, 0)},
		{"an edge goes by another letter than its least", automaton(2, 4, []int{3}, e(0, 1, 1, 0), e(1, 3, 3, 0), e(0, 2, 0, 2), e(2, 3, 2, 0), e(3, 3, 0, 0)), []int{0}, word([]uint16{0, 2}, 0)},
		{"by which of two letters both go", automaton(2, 4, []int{3}, e(0, 1, 1, 2), e(1, 3, 3, 0), e(0, 2, 0, 0), e(0, 2, 1, 0), e(2, 3, 2, 0), e(3, 3, 0, 0)), []int{0}, word([]uint16{0, 2}, 0)},
		{"a beginning of a greater number", automaton(2, 3, []int{2}, e(0, 2, 2, 0), e(1, 2, 1, 0), e(2, 2, 0, 0)), []int{0, 1}, word([]uint16{1}, 0)},
		{"a beginning that is nearer, by a greater letter", automaton(2, 3, []int{2}, e(0, 1, 0, 0), e(1, 2, 3, 0), e(2, 2, 0, 0)), []int{0, 1}, word([]uint16{3}, 0)},
		{"a less letter that leads round about", automaton(2, 3, []int{2}, e(0, 1, 0, 0), e(1, 2, 0, 0), e(0, 2, 3, 0), e(2, 2, 0, 0)), []int{0}, word([]uint16{3}, 0)},
		{"two edges between two states", automaton(2, 2, []int{1}, e(0, 1, 2, 0), e(0, 1, 1, 0), e(1, 1, 3, 0), e(1, 1, 2, 1)), []int{0}, word([]uint16{1}, 2)},
		{"the loop by another way than the stem", automaton(2, 4, []int{1}, e(0, 1, 0, 0), e(1, 2, 1, 0), e(1, 3, 2, 0), e(2, 1, 3, 0), e(3, 1, 0, 0)), []int{0}, word([]uint16{0}, 1, 3)},
		{"a loop back into where one began", automaton(2, 3, []int{0}, e(0, 1, 1, 0), e(0, 2, 1, 0), e(1, 0, 2, 1), e(2, 0, 1, 2)), []int{0}, word(nil, 1, 1)},
		{"a Not alone", automaton(2, 1, []int{0}, e(0, 0, 0, 3)), []int{0}, word(nil, 0)},
	} {
		if hand := lassoByHand(t, c.a, c.from); !sameWord(hand, c.want) {
			t.Fatalf("%s: by hand %v", c.who, hand)
		}
		wantFrom(t, c.a, c.from, c.want)
	}
}

// Letters over eight names and over none.
func TestManyNames(t *testing.T) {
	a := automaton(8, 2, []int{1}, api.Edge{From: 0, To: 1, Must: 255}, api.Edge{From: 1, To: 1, Must: 254, Not: 1}, api.Edge{From: 1, To: 1, Must: 128, Not: 64})
	wantFrom(t, a, []int{0}, word([]uint16{255}, 128))
	wantFrom(t, automaton(8, 1, []int{0}, api.Edge{Not: 255}), []int{0}, word(nil, 0))
	wantFrom(t, automaton(0, 2, []int{1}, api.Edge{From: 0, To: 1}, api.Edge{From: 1, To: 0}), []int{0}, word([]uint16{0}, 0, 0))
}

// The order of the states, and how often each is there, changes nothing.
func TestOrderOfStates(t *testing.T) {
	d := draw(3)
	for range 2000 {
		a := d.automaton(7, 2)
		from := d.some(a.States, 3)
		want := lassoByHand(t, a, from)
		var other []int
		for range 2 {
			for _, q := range from {
				other = slices.Insert(other, d.below(len(other)+1), q)
			}
		}
		wantFrom(t, a, other, want)
	}
}

// The lasso is told as it is, not in the words' normal form.
func TestAsItIs(t *testing.T) {
	// A ring of two states by one letter, behind a stem that ends with it.
	a := automaton(1, 3, []int{2}, api.Edge{From: 0, To: 2, Must: 1}, api.Edge{From: 1, To: 2, Must: 1}, api.Edge{From: 2, To: 1, Must: 1})
	wantFrom(t, a, []int{0}, word([]uint16{1}, 1, 1))
}
