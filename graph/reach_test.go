package graph_test

import (
	"math"
	"slices"
	"testing"

	"augur/graph"
)

// Example 2.
func TestReachExamples(t *testing.T) {
	g := example()
	if got := graph.Reach(g, 2); !slices.Equal(got, []bool{false, false, true, true, false}) {
		t.Errorf("Reach: %v", got)
	}
	if got := graph.Back(g, 3); !slices.Equal(got, []bool{true, true, true, true, false}) {
		t.Errorf("Back: %v", got)
	}
	if got := graph.Far(g, 1); !slices.Equal(got, []int{1, 0, 2, 3, -1}) {
		t.Errorf("Far: %v", got)
	}
}

// Example 4.
func TestTurnExample(t *testing.T) {
	if got := graph.Turn(example()); !same(got, [][]int{{1}, {0}, {0, 3}, {2, 2}, {4}}) {
		t.Errorf("%v", got)
	}
}

// From none, nothing is reached; of each node that is told all the same.
func TestFromNone(t *testing.T) {
	g := example()
	for _, from := range [][]int{nil, {}, {-1}, {5}, {-1, 5, math.MaxInt, math.MinInt, 1 << 32}} {
		if got := graph.Reach(g, from...); !slices.Equal(got, make([]bool, 5)) {
			t.Errorf("Reach from %v: %v", from, got)
		}
		if got := graph.Back(g, from...); !slices.Equal(got, make([]bool, 5)) {
			t.Errorf("Back to %v: %v", from, got)
		}
		if got := graph.Far(g, from...); !slices.Equal(got, []int{-1, -1, -1, -1, -1}) {
			t.Errorf("Far from %v: %v", from, got)
		}
		for node, far := range graph.Breadth(g, from...) {
			t.Errorf("Breadth from %v: %d at %d", from, node, far)
		}
	}
}

// What is no node is passed over, wherever it stands; a node twice is as once.
func TestPassedOver(t *testing.T) {
	g := example()
	for _, from := range [][]int{{1, 3}, {3, 1}, {-1, 3, 1}, {3, 5, 1}, {3, 1, math.MaxInt}, {1, 3, 1, 3, 3}, {math.MinInt, 1, 1 << 32, 3}} {
		if got := graph.Far(g, from...); !slices.Equal(got, []int{1, 0, 1, 0, -1}) {
			t.Errorf("Far from %v: %v", from, got)
		}
		if got := graph.Reach(g, from...); !slices.Equal(got, []bool{true, true, true, true, false}) {
			t.Errorf("Reach from %v: %v", from, got)
		}
		if got := graph.Back(g, from...); !slices.Equal(got, []bool{true, true, true, true, false}) {
			t.Errorf("Back to %v: %v", from, got)
		}
	}
}

// Far, Reach and Back of several, by the shortest ways between all nodes.
func TestReachByHand(t *testing.T) {
	d := draw(7)
	for g := range graphs(8) {
		far := farByHand(g)
		from := d.some(3, len(g))
		gotFar, gotReach, gotBack := graph.Far(g, from...), graph.Reach(g, from...), graph.Back(g, from...)
		if len(gotFar) != len(g) || len(gotReach) != len(g) || len(gotBack) != len(g) {
			t.Fatalf("of %v from %v: %v, %v, %v", g, from, gotFar, gotReach, gotBack)
		}
		for node := range g {
			want := farFrom(far, from, node)
			back := slices.ContainsFunc(from, func(to int) bool { return to >= 0 && to < len(g) && far[node][to] != never })
			if want == never {
				want = -1
			}
			if gotFar[node] != want || gotReach[node] != (want >= 0) || gotBack[node] != back {
				t.Fatalf("of %v from %v: %v, %v, %v", g, from, gotFar, gotReach, gotBack)
			}
		}
	}
}

// What holds: Far of a successor is at most one more; Back is Reach in the turned graph.
func TestReachHolds(t *testing.T) {
	d := draw(9)
	for g := range graphs(10) {
		from := d.some(3, len(g))
		far, reached := graph.Far(g, from...), graph.Reach(g, from...)
		for node, row := range g {
			if reached[node] != (far[node] >= 0) {
				t.Fatalf("of %v from %v: %v, %v", g, from, far, reached)
			}
			for _, to := range row {
				if far[node] >= 0 && (far[to] < 0 || far[to] > far[node]+1) {
					t.Fatalf("Far(%v, %v) = %v", g, from, far)
				}
			}
		}
		if !slices.Equal(graph.Back(g, from...), graph.Reach(graph.Turn(g), from...)) {
			t.Fatalf("Back(%v, %v)", g, from)
		}
	}
}

// Turn has each edge turned, as often as it is there, and rises; turned twice it has the same edges.
func TestTurnByHand(t *testing.T) {
	for g := range graphs(11) {
		want, sorted := make([][]int, len(g)), make([][]int, len(g))
		for to := range g {
			for from, row := range g {
				for _, i := range row {
					if i == to {
						want[to] = append(want[to], from)
					}
				}
			}
			sorted[to] = slices.Sorted(slices.Values(g[to]))
		}
		got := graph.Turn(g)
		if !same(got, want) {
			t.Fatalf("Turn(%v) = %v, want %v", g, got, want)
		}
		if twice := graph.Turn(got); !same(twice, sorted) {
			t.Fatalf("Turn twice of %v = %v", g, twice)
		}
	}
}
