package empty

import (
	"cmp"
	"iter"
	"math"

	"augur/api"
	"augur/bits"
	"augur/graph"
)

// lasso is a final state with a ring: how many edges a shortest way to it and a
// shortest ring of it have.
type lasso struct {
	state int
	far   int
	round int
}

// leastLasso is the lasso that is taken from these states; false: there is none.
func leastLasso(a api.Buchi, g [][]int, states []int) (lasso, bool) {
	return least(lassos(a, g, states), func(l, m lasso) bool {
		return cmp.Or(cmp.Compare(l.far+l.round, m.far+m.round), cmp.Compare(l.far, m.far), cmp.Compare(l.state, m.state)) < 0
	})
}

// least is the one of these than which, as less tells it, no other one is less;
// false: there is none at all.
func least[T any](all iter.Seq[T], less func(a, b T) bool) (T, bool) {
	var best T
	found := false
	for one := range all {
		if !found || less(one, best) {
			best, found = one, true
		}
	}
	return best, found
}

// lassos goes through the lassos from these states, but for some that are surely
// not the least: to look for all rings may take far too long.
//
// Final states come by how far they are, then by their numbers. So behind one
// that came, another one can only be less by a shorter ring; and by none through
// the one that came, as that would be a ring of it, too.
func lassos(a api.Buchi, g [][]int, states []int) iter.Seq[lasso] {
	return func(yield func(lasso) bool) {
		rings := ringsOf(g)
		finals := bits.Of(a.States, finalsOnRings(a, rings)...)
		f := newField(rings)
		shortest := math.MaxInt // way and ring together, of those that came
		for state, far := range graph.Breadth(g, states...) {
			if !finals.Has(state) {
				continue
			}
			most := shortest - far - 1
			if most < 1 {
				return
			}
			if round, found := f.round(state, most); found {
				shortest = far + round
				if !yield(lasso{state, far, round}) {
					return
				}
			}
			f.cut(state)
		}
	}
}

// field is a graph of rings out of which states are cut. What is on no ring any
// more is cut with them, so that nobody goes along it in vain.
type field struct {
	in     *bits.Set // the states that are not cut
	behind [][]int   // of each state its successors, those that are cut with them
	ahead  [][]int   // the states whose successor it is
	onward []int     // of each state how many of its successors are in
	back   []int     // how many of those ahead
}

func newField(rings [][]int) *field {
	f := &field{in: bits.New(len(rings)), behind: rings, ahead: graph.Turn(rings)}
	f.onward, f.back = make([]int, len(rings)), make([]int, len(rings))
	for state := range rings {
		f.onward[state], f.back[state] = len(f.behind[state]), len(f.ahead[state])
		if f.onward[state] > 0 {
			f.in.Put(state)
		}
	}
	return f
}

// round is how many edges a shortest ring of a state has within the field; false:
// it has none of at most so many.
func (f *field) round(state, most int) (int, bool) {
	if !f.in.Has(state) {
		return 0, false
	}
	met := bits.New(f.in.Width())
	front := []int{state}
	for edges := 1; edges <= most && len(front) > 0; edges++ {
		var next []int
		for _, from := range front {
			for _, to := range f.behind[from] {
				if to == state {
					return edges, true
				}
				if f.in.Has(to) && !met.Has(to) {
					met.Put(to)
					next = append(next, to)
				}
			}
		}
		front = next
	}
	return 0, false
}

// cut takes a state out of the field, and all that are on no ring then because
// nothing leads on from them, or nothing to them.
func (f *field) cut(state int) {
	var gone []int
	take := func(state int) {
		if f.in.Has(state) {
			f.in.Cut(state)
			gone = append(gone, state)
		}
	}
	loseOne := func(states, left []int) {
		for _, state := range states {
			left[state]--
			if left[state] == 0 {
				take(state)
			}
		}
	}
	take(state)
	for len(gone) > 0 {
		last := gone[len(gone)-1]
		gone = gone[:len(gone)-1]
		loseOne(f.behind[last], f.back)
		loseOne(f.ahead[last], f.onward)
	}
}
