package graph

import (
	"container/heap"
	"sort"

	"augur/api"
)

// Parts are the components: of each node its number; how many. Whoever is
// reached has a number that is not above.
func Parts(g [][]int) ([]int, int) {
	if Check(g) != api.OK {
		return nil, 0
	}
	least := leastOf(g)
	numbers, many := numbersOf(g, least)
	of := make([]int, len(g))
	for node := range of {
		of[node] = numbers[least[node]]
	}
	return of, many
}

// leastOf is of each node the least one of its component, which stands for it
// till all are found.
func leastOf(g [][]int) []int {
	w := walk{g: g, at: nones(len(g)), low: make([]int, len(g)), gone: make([]int, len(g)), least: nones(len(g))}
	for node := range g {
		if w.at[node] == none {
			w.through(node)
		}
	}
	return w.least
}

// walk is Tarjan's way through a graph.
type walk struct {
	g     [][]int
	at    []int // of each node as the how-manieth it was met; none, if it was not
	low   []int // of each node the least at, of open ones, that is known to be reached from it
	gone  []int // of each node how many of its edges were gone
	least []int // of each node the least one of its component; none, till that is closed
	met   int   // how many nodes were met
	path  []int // how one came to where one is: the stack that calls would have
	open  []int // the nodes that were met, and whose components are not closed, as they were met
}

// through goes through all that a node reaches and was not met.
func (w *walk) through(first int) {
	w.enter(first)
	for len(w.path) > 0 {
		node := w.path[len(w.path)-1]
		if w.gone[node] == len(w.g[node]) {
			w.leave(node)
			continue
		}
		to := w.g[node][w.gone[node]]
		w.gone[node]++
		switch {
		case w.at[to] == none:
			w.enter(to)
		case w.least[to] == none:
			w.low[node] = min(w.low[node], w.at[to])
		}
	}
}

func (w *walk) enter(node int) {
	w.at[node], w.low[node] = w.met, w.met
	w.met++
	w.path = append(w.path, node)
	w.open = append(w.open, node)
}

// leave goes back from a node, the last one of the path.
func (w *walk) leave(node int) {
	w.path = w.path[:len(w.path)-1]
	if w.low[node] == w.at[node] {
		w.closeFrom(node)
		return
	}
	// It reaches one that was met ahead of it and is open: so it was not the first.
	ahead := w.path[len(w.path)-1]
	w.low[ahead] = min(w.low[ahead], w.low[node])
}

// closeFrom closes the component of a node, of which it was met first: all that
// were met since and are open.
func (w *walk) closeFrom(node int) {
	first := len(w.open) - 1
	least := node
	for w.open[first] != node {
		least = min(least, w.open[first])
		first--
	}
	for _, member := range w.open[first:] {
		w.least[member] = least
	}
	w.open = w.open[:first]
}

// numbersOf is of each component, at its least node, its number; and how many
// there are.
func numbersOf(g [][]int, least []int) ([]int, int) {
	between := edgesBetween(g, least)
	ahead := Turn(between)
	left := make([]int, len(g)) // edges to components without a number
	wait := &waiting{}
	for node := range g {
		left[node] = len(between[node])
		if least[node] == node && left[node] == 0 {
			heap.Push(wait, node)
		}
	}
	numbers, many := make([]int, len(g)), 0
	for ; wait.Len() > 0; many++ {
		node := heap.Pop(wait).(int)
		numbers[node] = many
		for _, from := range ahead[node] {
			left[from]--
			if left[from] == 0 {
				heap.Push(wait, from)
			}
		}
	}
	return numbers, many
}

// edgesBetween is the graph of the edges from one component to another one,
// each of which is its least node.
func edgesBetween(g [][]int, least []int) [][]int {
	between := make([][]int, len(g))
	for node, row := range g {
		from := least[node]
		for _, to := range row {
			if least[to] != from {
				between[from] = append(between[from], least[to])
			}
		}
	}
	return between
}

// waiting are the least nodes of the components that can have the next number,
// as a heap.
type waiting struct{ sort.IntSlice }

// Push and Pop are what a heap needs.
func (w *waiting) Push(node any) { w.IntSlice = append(w.IntSlice, node.(int)) }

func (w *waiting) Pop() any {
	last := w.Len() - 1
	node := w.IntSlice[last]
	w.IntSlice = w.IntSlice[:last]
	return node
}
