package graph_test

import (
	"runtime/debug"
	"testing"

	"augur/graph"
)

const many = 1000000

// row leads from each node to the next one.
func row(n int) [][]int {
	g := make([][]int, n)
	for i := range n - 1 {
		g[i] = []int{i + 1}
	}
	return g
}

// shallow lets stacks be small while a test runs: calls within calls, along a way as long as these, would end the tests.
func shallow(t *testing.T) {
	was := debug.SetMaxStack(1 << 20)
	t.Cleanup(func() { debug.SetMaxStack(was) })
}

func TestLongRow(t *testing.T) {
	shallow(t)
	g := row(many)
	of, n := graph.Parts(g)
	cyclic := graph.Cyclic(g, of)
	far, reached, back := graph.Far(g, 0), graph.Reach(g, 0), graph.Back(g, many-1)
	if n != many || len(cyclic) != many {
		t.Fatalf("%d components, %d", n, len(cyclic))
	}
	for i := range many {
		if of[i] != many-1-i || cyclic[i] || far[i] != i || !reached[i] || !back[i] {
			t.Fatalf("at %d: %d, %v, %d, %v, %v", i, of[i], cyclic[i], far[i], reached[i], back[i])
		}
	}
	way, found := graph.Way(g, []int{0}, among(many-1))
	if !found || len(way) != many {
		t.Fatalf("a way of %d", len(way))
	}
	n = 0
	for node, far := range graph.Breadth(g, 0) {
		if node != n || far != n || way[n] != n {
			t.Fatalf("at %d: %d at %d; %d", n, node, far, way[n])
		}
		n++
	}
	if n != many {
		t.Errorf("%d nodes", n)
	}
}

func TestLongRing(t *testing.T) {
	shallow(t)
	g := row(many)
	g[many-1] = []int{0}
	of, n := graph.Parts(g)
	if n != 1 || of[0] != 0 || of[many-1] != 0 {
		t.Fatalf("%d components", n)
	}
	if cyclic := graph.Cyclic(g, of); len(cyclic) != 1 || !cyclic[0] {
		t.Errorf("Cyclic: %v", cyclic)
	}
	if far := graph.Far(g, 5); far[4] != many-1 {
		t.Errorf("Far: %d", far[4])
	}
	if way, found := graph.Way(g, []int{5, 5}, among(4)); !found || len(way) != many {
		t.Errorf("a way of %d", len(way))
	}
}

// Rings one behind the other: each waits for the next one.
func TestManyRings(t *testing.T) {
	shallow(t)
	g := make([][]int, many)
	for i := 0; i < many; i += 2 {
		g[i], g[i+1] = []int{i + 1}, []int{i}
		if i+2 < many {
			g[i+1] = append(g[i+1], i+2)
		}
	}
	of, n := graph.Parts(g)
	if n != many/2 {
		t.Fatalf("%d components", n)
	}
	for i := range many {
		if of[i] != many/2-1-i/2 {
			t.Fatalf("%d is of %d", i, of[i])
		}
	}
}

// All wait for the last one, or it for all.
func TestStars(t *testing.T) {
	g, h := make([][]int, many), make([][]int, many)
	for i := range many - 1 {
		g[i] = []int{many - 1}
		h[many-1] = append(h[many-1], many-2-i)
	}
	of, n := graph.Parts(g)
	if n != many || of[many-1] != 0 || of[0] != 1 || of[many-2] != many-1 {
		t.Errorf("%d components: %d, %d, %d", n, of[many-1], of[0], of[many-2])
	}
	of, n = graph.Parts(h)
	if n != many || of[many-1] != many-1 || of[0] != 0 || of[many-2] != many-2 {
		t.Errorf("%d components: %d, %d, %d", n, of[many-1], of[0], of[many-2])
	}
	if !same(graph.Turn(g), graph.Turn(graph.Turn(h))) {
		t.Error("Turn")
	}
	if way, found := graph.Way(h, []int{many - 1}, func(node int) bool { return node < many-1 }); !found || len(way) != 2 || way[1] != 0 {
		t.Errorf("%v, %v", way, found)
	}
}

// As many ways as there are rows of bits: none of them is gone twice.
func TestManyWays(t *testing.T) {
	const layers = 100000
	g := make([][]int, 2*layers+2)
	for i := range 2 * layers {
		behind := i/2*2 + 2
		g[i] = []int{behind + 1, behind, behind + 1}
	}
	way, found := graph.Way(g, []int{1, 0}, among(2*layers, 2*layers+1))
	if !found || len(way) != layers+1 {
		t.Fatalf("a way of %d", len(way))
	}
	for i, node := range way {
		if node != 2*i {
			t.Fatalf("at %d: %d", i, node)
		}
	}
	if _, n := graph.Parts(g); n != 2*layers+2 {
		t.Errorf("%d components", n)
	}
}

// Edges between all nodes.
func TestDense(t *testing.T) {
	const n = 1500
	g := make([][]int, n)
	for i := range g {
		for j := range n {
			g[i] = append(g[i], n-1-j)
		}
	}
	if of, parts := graph.Parts(g); parts != 1 || of[n-1] != 0 {
		t.Errorf("%d components", parts)
	}
	for i := range g {
		g[i] = g[i][:n-1-i] // to greater ones alone
	}
	of, parts := graph.Parts(g)
	if parts != n || of[0] != n-1 || of[n-1] != 0 {
		t.Errorf("%d components", parts)
	}
	if far := graph.Far(g, 0); far[n-1] != 1 {
		t.Errorf("Far: %d", far[n-1])
	}
}
