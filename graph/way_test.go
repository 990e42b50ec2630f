package graph_test

import (
	"math"
	"slices"
	"testing"

	"augur/graph"
)

// among is a goal: one of these.
func among(list ...int) func(int) bool {
	return func(node int) bool { return slices.Contains(list, node) }
}

func anyNode(int) bool { return true }

func wantWay(t *testing.T, g [][]int, from []int, goal func(int) bool, want []int) {
	t.Helper()
	got, found := graph.Way(g, from, goal)
	if !slices.Equal(got, want) || found != (len(want) > 0) {
		t.Errorf("Way(%v, %v) = %v, %v, want %v", g, from, got, found, want)
	}
}

// Example 3.
func TestWayExamples(t *testing.T) {
	wantWay(t, example(), []int{4, 1}, among(3), []int{1, 0, 2, 3})
	wantWay(t, example(), []int{0}, among(4), nil)
	wantWay(t, example(), []int{3, 2}, anyNode, []int{2})
}

func TestWayNone(t *testing.T) {
	g := example()
	wantWay(t, g, []int{0}, nil, nil)
	wantWay(t, g, nil, nil, nil)
	wantWay(t, g, nil, anyNode, nil)
	wantWay(t, g, []int{}, anyNode, nil)
	wantWay(t, g, []int{-1, 5, math.MaxInt, math.MinInt, 1 << 32}, anyNode, nil)
	wantWay(t, g, []int{0, 1, 2, 3, 4}, among(), nil)
	wantWay(t, g, []int{0, 1, 2, 3, 4}, among(5, -1), nil)
	wantWay(t, g, []int{2, 3}, among(0, 1, 4), nil)
}

// Of several, the shortest; of these the least, node by node.
func TestWayLeast(t *testing.T) {
	net := [][]int{{2, 1}, {3}, {3}, {5, 4}, {6}, {6}, nil}
	wantWay(t, net, []int{0}, among(6), []int{0, 1, 3, 4, 6})
	wantWay(t, net, []int{0, 3}, among(6), []int{3, 4, 6})
	wantWay(t, net, []int{5, 4}, among(6), []int{4, 6})
	wantWay(t, net, []int{-1, 7, 5, 5, 4}, among(6), []int{4, 6})
	wantWay(t, net, []int{0}, among(0), []int{0})
	// The first nodes count ahead of the last one: 1 comes ahead of 2, and so 9 ahead of 3.
	fork := [][]int{{2, 1}, {9}, {3}, nil, nil, nil, nil, nil, nil, nil}
	wantWay(t, fork, []int{0}, among(3, 9), []int{0, 1, 9})
	// 1 is a beginning, but does not come to a goal as soon as 4 does.
	wantWay(t, [][]int{{2}, {2}, {3}, nil, {3}}, []int{1, 4, 0}, among(3), []int{4, 3})
	// The least successor leads nowhere, the next one to the goal too late.
	wantWay(t, [][]int{{1, 2, 3}, nil, {4}, {5}, {5}, nil}, []int{0}, among(5), []int{0, 3, 5})
	// What is near comes ahead of what is small.
	wantWay(t, [][]int{{3}, nil, {1}, {2, 4}, nil}, []int{0}, among(1, 4), []int{0, 3, 4})
	// A ring: a way that goes round is longer.
	wantWay(t, [][]int{{0, 1}, {0, 2}, {0, 1, 2}}, []int{0}, among(2), []int{0, 1, 2})
}

// wayByHand goes through all rows of one length behind the other, each from the least one on.
func wayByHand(g [][]int, from []int, goal func(int) bool) []int {
	var rows [][]int
	for node := range g {
		if slices.Contains(from, node) {
			rows = append(rows, []int{node})
		}
	}
	for range g {
		var longer [][]int
		for _, row := range rows {
			last := row[len(row)-1]
			if goal(last) {
				return row
			}
			for to := range g {
				if slices.Contains(g[last], to) && !slices.Contains(row, to) {
					longer = append(longer, append(slices.Clip(row), to))
				}
			}
		}
		rows = longer
	}
	return nil
}

func TestWayByHand(t *testing.T) {
	d := draw(14)
	for n := range 4 {
		for g := range small(n) {
			for goals := range 1 << n {
				goal := func(node int) bool { return goals>>node&1 == 1 }
				for starts := range 1 << n {
					var from []int
					for node := range n {
						if starts>>node&1 == 1 {
							from = append([]int{node}, from...)
						}
					}
					wantWay(t, g, from, goal, wayByHand(g, from, goal))
				}
			}
		}
	}
	for range 3000 {
		g := d.graph(8)
		from, goal := d.some(3, len(g)), among(d.some(3, len(g))...)
		wantWay(t, g, from, goal, wayByHand(g, from, goal))
	}
}

// What holds: what Way tells is a way, as long as Far says, and no goal is nearer; if it tells none, no goal is reached.
func TestWayHolds(t *testing.T) {
	d := draw(15)
	for g := range graphs(16) {
		from, goal := d.some(3, len(g)), among(d.some(2, len(g))...)
		way, found := graph.Way(g, from, goal)
		nearest := never
		for node, far := range graph.Far(g, from...) {
			if far >= 0 && goal(node) {
				nearest = min(nearest, far)
			}
		}
		if !found {
			if nearest != never || len(way) != 0 {
				t.Fatalf("Way(%v, %v) = %v, though a goal is at %d", g, from, way, nearest)
			}
			continue
		}
		if len(way) != nearest+1 || !slices.Contains(from, way[0]) || !goal(way[len(way)-1]) {
			t.Fatalf("Way(%v, %v) = %v, with a goal at %d", g, from, way, nearest)
		}
		for i := range nearest {
			if !slices.Contains(g[way[i]], way[i+1]) {
				t.Fatalf("Way(%v, %v) = %v: no edge to %d", g, from, way, way[i+1])
			}
		}
	}
}

// A goal is asked of nodes alone.
func TestGoalIsAskedOfNodes(t *testing.T) {
	d := draw(17)
	for g := range graphs(18) {
		graph.Way(g, append(d.some(4, len(g)), -1, len(g), math.MaxInt), func(node int) bool {
			if node < 0 || node >= len(g) {
				t.Fatalf("asked of %d", node)
			}
			return false
		})
	}
}

// A goal may ask of graphs itself, also for a way in the same one; what it does to what is lent changes nothing of the way that is being told.
func TestWayWithinItself(t *testing.T) {
	g, from := example(), []int{4, 1}
	got, found := graph.Way(g, from, func(node int) bool {
		way, found := graph.Way(g, from, among(node))
		return found && len(way) == 4
	})
	if !found || !slices.Equal(got, []int{1, 0, 2, 3}) {
		t.Errorf("%v, %v", got, found)
	}
	got, found = graph.Way(g, from, func(node int) bool {
		clear(g)
		clear(from)
		return node == 3
	})
	if !found || !slices.Equal(got, []int{1, 0, 2, 3}) {
		t.Errorf("spoilt: %v, %v", got, found)
	}
}

// LANGUAGE.md, 4: no call panics, whatever it is given.
func TestGoalThatPanics(t *testing.T) {
	wantWay(t, example(), []int{0}, func(int) bool { panic("no goal") }, nil)
	wantWay(t, example(), []int{0}, func(node int) bool { return []bool{}[node] }, nil)
	wantWay(t, example(), []int{0}, among(3), []int{0, 2, 3})
}
