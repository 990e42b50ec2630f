package graph_test

import (
	"math"
	"slices"
	"testing"

	"augur/graph"
)

// Example 1.
func TestPartsExamples(t *testing.T) {
	of, n := graph.Parts(example())
	if !slices.Equal(of, []int{1, 1, 0, 0, 2}) || n != 3 {
		t.Errorf("%v, %d", of, n)
	}
	if got := graph.Cyclic(example(), of); !slices.Equal(got, []bool{true, true, true}) {
		t.Errorf("Cyclic: %v", got)
	}
	row := [][]int{{1}, nil}
	of, n = graph.Parts(row)
	if !slices.Equal(of, []int{1, 0}) || n != 2 {
		t.Errorf("%v, %d", of, n)
	}
	if got := graph.Cyclic(row, of); !slices.Equal(got, []bool{false, false}) {
		t.Errorf("Cyclic: %v", got)
	}
}

// The order is by what is numbered, then by the least node, whichever of a component is met first.
func TestPartsOrder(t *testing.T) {
	for _, c := range []struct {
		g    [][]int
		want []int
		n    int
	}{
		{[][]int{nil}, []int{0}, 1},
		{[][]int{{0}}, []int{0}, 1},
		{[][]int{nil, nil, nil}, []int{0, 1, 2}, 3},
		{[][]int{nil, {0}, {1}, {2}}, []int{0, 1, 2, 3}, 4},
		{[][]int{{1}, {2}, {3}, nil}, []int{3, 2, 1, 0}, 4},
		// As soon as 3 is numbered, 0 comes, ahead of 4 and 5, which could come from the beginning.
		{[][]int{{3}, {0}, nil, nil, nil, nil}, []int{2, 3, 0, 1, 4, 5}, 6},
		{[][]int{{2}, nil, nil}, []int{2, 0, 1}, 3},
		// The component 1, 5 has the least node 1; that 2, 4 the 2; 3 stands between.
		{[][]int{{4}, {5}, {4}, nil, {2}, {1}}, []int{2, 0, 1, 3, 1, 0}, 4},
		// The component 0, 5 waits for that of 4.
		{[][]int{{5}, nil, nil, nil, nil, {0, 4}}, []int{4, 0, 1, 2, 3, 4}, 5},
		// An edge that is there twice is gone both times.
		{[][]int{{1, 1, 2}, nil, {1, 1, 1}}, []int{2, 0, 1}, 3},
	} {
		of, n := graph.Parts(c.g)
		if !slices.Equal(of, c.want) || n != c.n {
			t.Errorf("Parts(%v) = %v, %d, want %v, %d", c.g, of, n, c.want, c.n)
		}
	}
}

// partsByHand takes the chapter's words one by one.
func partsByHand(g [][]int) ([]int, int) {
	far := farByHand(g)
	together := func(a, b int) bool { return far[a][b] != never && far[b][a] != never }
	of := slices.Repeat([]int{-1}, len(g))
	ready := func(node int) bool {
		for member := range g {
			for _, to := range g[member] {
				if together(node, member) && !together(node, to) && of[to] < 0 {
					return false
				}
			}
		}
		return of[node] < 0
	}
	for n := 0; ; n++ {
		least := 0
		for least < len(g) && !ready(least) {
			least++
		}
		if least == len(g) {
			return of, n
		}
		for member := range g {
			if together(least, member) {
				of[member] = n
			}
		}
	}
}

func TestPartsByHand(t *testing.T) {
	check := func(g [][]int) {
		want, many := partsByHand(g)
		if of, n := graph.Parts(g); !slices.Equal(of, want) || n != many {
			t.Fatalf("Parts(%v) = %v, %d, want %v, %d", g, of, n, want, many)
		}
	}
	for g := range graphs(2) {
		check(g)
	}
	for g := range small(4) {
		check(g)
	}
}

// What holds: one number just if each reaches the other one; no edge leads to a greater number.
func TestPartsHold(t *testing.T) {
	for g := range graphs(3) {
		of, n := graph.Parts(g)
		for a := range g {
			reached, back := graph.Reach(g, a), graph.Back(g, a)
			for b := range g {
				if (of[a] == of[b]) != (reached[b] && back[b]) || reached[b] && of[b] > of[a] {
					t.Fatalf("Parts(%v) = %v", g, of)
				}
			}
			if of[a] < 0 || of[a] >= n {
				t.Fatalf("Parts(%v) = %v, %d", g, of, n)
			}
		}
		for part := range n {
			if !slices.Contains(of, part) {
				t.Fatalf("Parts(%v) = %v, %d", g, of, n)
			}
		}
	}
}

// A component, by Parts, is cyclic just if it has several nodes, or one with an edge to itself.
func TestCyclicOfParts(t *testing.T) {
	for g := range graphs(4) {
		of, n := graph.Parts(g)
		nodes, want := make([]int, n), make([]bool, n)
		for node, part := range of {
			nodes[part]++
			want[part] = want[part] || nodes[part] > 1 || slices.Contains(g[node], node)
		}
		if got := graph.Cyclic(g, of); !slices.Equal(got, want) {
			t.Fatalf("Cyclic(%v, %v) = %v, want %v", g, of, got, want)
		}
	}
}

// Numbers need not be those of components, nor need there be one of each.
func TestCyclicOfOthers(t *testing.T) {
	for _, c := range []struct {
		of   []int
		want []bool
	}{
		{[]int{0, 0, 0, 0, 0}, []bool{true}},
		{[]int{4, 4, 4, 4, 4}, []bool{false, false, false, false, true}},
		{[]int{0, 1, 3, 3, 0}, []bool{true, false, false, true}}, // the edge of 4 is one of 0's
		{[]int{0, 1, 0, 1, 2}, []bool{true, false, true}},        // 0 to 2 is no ring, but an edge
		{[]int{4, 3, 2, 1, 0}, []bool{true, false, false, false, false}},
	} {
		if got := graph.Cyclic(example(), c.of); !slices.Equal(got, c.want) {
			t.Errorf("Cyclic of %v: %v, want %v", c.of, got, c.want)
		}
	}
	d := draw(5)
	for g := range graphs(6) {
		of, greatest := make([]int, len(g)), -1
		for i := range of {
			of[i] = d.below(len(g))
			greatest = max(greatest, of[i])
		}
		want := make([]bool, greatest+1)
		for part := range want {
			for from, row := range g {
				for _, to := range row {
					want[part] = want[part] || of[from] == part && of[to] == part
				}
			}
		}
		if got := graph.Cyclic(g, of); !slices.Equal(got, want) {
			t.Fatalf("Cyclic(%v, %v) = %v, want %v", g, of, got, want)
		}
	}
}

func TestCyclicOfNothing(t *testing.T) {
	for _, of := range [][]int{
		nil, {}, {0}, {0, 0, 0, 0}, {0, 0, 0, 0, 0, 0}, {0, 0, 0, 0, -1}, {-1, 0, 0, 0, 0}, {0, 0, 5, 0, 0}, {0, 1, 2, 3, 5}, {5, 4, 3, 2, 1},
		{0, math.MaxInt, 0, 0, 0}, {0, 0, 0, math.MinInt, 0}, {1 << 32, 0, 0, 0, 0},
	} {
		if got := graph.Cyclic(example(), of); len(got) != 0 {
			t.Errorf("Cyclic of %v: %v", of, got)
		}
	}
}
