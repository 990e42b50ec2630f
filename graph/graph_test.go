package graph_test

import (
	"iter"
	"math"
	"slices"
	"testing"

	"augur/api"
	"augur/graph"
)

// The calls as the chapter lists them.
var (
	_ func([][]int) api.Errno                            = graph.Check
	_ func([][]int) ([]int, int)                         = graph.Parts
	_ func([][]int, []int) []bool                        = graph.Cyclic
	_ func([][]int, ...int) []bool                       = graph.Reach
	_ func([][]int, ...int) []bool                       = graph.Back
	_ func([][]int, []int, func(int) bool) ([]int, bool) = graph.Way
	_ func([][]int, ...int) []int                        = graph.Far
	_ func([][]int) [][]int                              = graph.Turn
	_ func([][]int, ...int) iter.Seq2[int, int]          = graph.Breadth
)

func TestNumber(t *testing.T) {
	if api.OK != 0 || api.ErrGraphForm != 110 {
		t.Errorf("%d, %d", api.OK, api.ErrGraphForm)
	}
}

// example is the graph of the chapter's examples.
func example() [][]int { return [][]int{{1, 2}, {0}, {3, 3}, {2}, {4}} }

// draw are numbers that look as if nobody knew them, always the same.
type draw uint32

func (d *draw) below(n int) int {
	*d = *d*1664525 + 1013904223
	return int(*d>>8) % n
}

// graph has 1 to so many nodes, and some edges for each, in any order, some of them several times.
func (d *draw) graph(nodes int) [][]int {
	g := make([][]int, 1+d.below(nodes))
	for range d.below(3*len(g) + 1) {
		from := d.below(len(g))
		g[from] = append(g[from], d.below(len(g)))
	}
	return g
}

// some are at most so many numbers, in any order, some of them perhaps no nodes of a graph of n.
func (d *draw) some(most, n int) []int {
	var list []int
	for range d.below(most + 1) {
		list = append(list, d.below(n+4)-2)
	}
	return list
}

// small goes through all graphs of so many nodes without edges that are there twice.
func small(n int) iter.Seq[[][]int] {
	return func(yield func([][]int) bool) {
		for code := range 1 << (n * n) {
			g := make([][]int, n)
			for bit := range n * n {
				if code>>bit&1 == 1 {
					g[bit/n] = append(g[bit/n], bit%n)
				}
			}
			if !yield(g) {
				return
			}
		}
	}
}

// graphs goes through all of at most 3 nodes, and some greater ones.
func graphs(seed draw) iter.Seq[[][]int] {
	return func(yield func([][]int) bool) {
		for n := range 4 {
			for g := range small(n) {
				if !yield(g) {
					return
				}
			}
		}
		for _, nodes := range []int{5, 9, 20} {
			for range 400 {
				if !yield(seed.graph(nodes)) {
					return
				}
			}
		}
	}
}

const never = math.MaxInt

// farByHand is how many edges the shortest way from each node to each one has; never, if there is none: by all nodes between.
func farByHand(g [][]int) [][]int {
	far := make([][]int, len(g))
	for i, row := range g {
		far[i] = slices.Repeat([]int{never}, len(g))
		for _, j := range row {
			far[i][j] = 1
		}
		far[i][i] = 0
	}
	for k := range g {
		for i := range g {
			for j := range g {
				if far[i][k] != never && far[k][j] != never {
					far[i][j] = min(far[i][j], far[i][k]+far[k][j])
				}
			}
		}
	}
	return far
}

// farFrom is how far a node is from the nearest of these that are nodes.
func farFrom(far [][]int, from []int, node int) int {
	least := never
	for _, i := range from {
		if i >= 0 && i < len(far) {
			least = min(least, far[i][node])
		}
	}
	return least
}

func same(g, h [][]int) bool { return slices.EqualFunc(g, h, slices.Equal[[]int]) }

// wrong are lists that are no graphs.
func wrong() [][][]int {
	return [][][]int{
		{{1}}, {{-1}}, {{0}, {2}}, {{0, 1}, {1, 0, 2}}, {{-1, 0}, {0}}, {nil, nil, {0, 1, 2, 3}}, {nil, {1, 1, -1, 1}, nil},
		{{math.MaxInt}}, {{math.MinInt}}, {{1 << 32}}, {{0, 1 << 31}}, {{1 << 16}}, {nil, {-1 << 32}}, {{0}, {5}, {1, 2}},
	}
}

// Example 5, and others.
func TestCheck(t *testing.T) {
	for _, g := range [][][]int{nil, {}, {nil}, {{}}, {{0}}, {{0, 0, 0}}, {nil, nil}, {{1}, {0}}, {{1, 0, 1}, {}, {2, 1, 0}}, example()} {
		if err := graph.Check(g); err != api.OK {
			t.Errorf("Check(%v) = %v", g, err)
		}
	}
	for _, g := range wrong() {
		if err := graph.Check(g); err != api.ErrGraphForm {
			t.Errorf("Check(%v) = %v", g, err)
		}
	}
	d := draw(1)
	for range 1000 {
		g := d.graph(6)
		if graph.Check(g) != api.OK {
			t.Fatalf("Check(%v)", g)
		}
		i := d.below(len(g))
		g[i] = slices.Insert(g[i], d.below(len(g[i])+1), []int{-1, len(g)}[d.below(2)])
		if graph.Check(g) != api.ErrGraphForm {
			t.Fatalf("Check(%v)", g)
		}
	}
}

// Of what is no graph nothing is told, and no goal is asked for.
func TestOfNoGraph(t *testing.T) {
	for _, g := range wrong() {
		nodes := []int{0, 1, 2, -1}
		if of, n := graph.Parts(g); len(of) != 0 || n != 0 {
			t.Errorf("Parts(%v) = %v, %d", g, of, n)
		}
		if got := graph.Cyclic(g, make([]int, len(g))); len(got) != 0 {
			t.Errorf("Cyclic(%v) = %v", g, got)
		}
		if got := graph.Reach(g, nodes...); len(got) != 0 {
			t.Errorf("Reach(%v) = %v", g, got)
		}
		if got := graph.Back(g, nodes...); len(got) != 0 {
			t.Errorf("Back(%v) = %v", g, got)
		}
		if got := graph.Far(g, nodes...); len(got) != 0 {
			t.Errorf("Far(%v) = %v", g, got)
		}
		if got := graph.Turn(g); len(got) != 0 {
			t.Errorf("Turn(%v) = %v", g, got)
		}
		for node, far := range graph.Breadth(g, nodes...) {
			t.Errorf("Breadth(%v): %d at %d", g, node, far)
		}
		asked := 0
		way, found := graph.Way(g, nodes, func(int) bool { asked++; return true })
		if len(way) != 0 || found || asked != 0 {
			t.Errorf("Way(%v) = %v, %v, asked %d times", g, way, found, asked)
		}
	}
}

// A graph without nodes is one.
func TestOfNoNodes(t *testing.T) {
	for _, g := range [][][]int{nil, {}} {
		of, n := graph.Parts(g)
		way, found := graph.Way(g, []int{0}, func(int) bool { return true })
		if len(of)+n+len(way) != 0 || found {
			t.Errorf("%v, %d; %v, %v", of, n, way, found)
		}
		for _, many := range []int{
			len(graph.Cyclic(g, nil)), len(graph.Cyclic(g, []int{})), len(graph.Cyclic(g, []int{0})), len(graph.Reach(g, 0)), len(graph.Back(g, 0)),
			len(graph.Far(g, 0)), len(graph.Turn(g)),
		} {
			if many != 0 {
				t.Errorf("%d of no node", many)
			}
		}
		for node := range graph.Breadth(g, 0) {
			t.Errorf("Breadth: %d", node)
		}
	}
}
