package graph_test

import (
	"slices"
	"testing"

	"augur/graph"
)

// told is a node and how far it is.
type told struct{ node, far int }

func breadth(g [][]int, from ...int) []told {
	var list []told
	for node, far := range graph.Breadth(g, from...) {
		list = append(list, told{node, far})
	}
	return list
}

// Example 2, and others: by how far, then by the nodes' numbers, not by whose successors they are.
func TestBreadthExamples(t *testing.T) {
	for _, c := range []struct {
		g    [][]int
		from []int
		want []told
	}{
		{example(), []int{0}, []told{{0, 0}, {1, 1}, {2, 1}, {3, 2}}},
		{example(), []int{4, 0}, []told{{0, 0}, {4, 0}, {1, 1}, {2, 1}, {3, 2}}},
		{example(), []int{3, 9, 3, -1, 2}, []told{{2, 0}, {3, 0}}},
		{[][]int{{2, 1}, {4}, {3}, nil, nil}, []int{0}, []told{{0, 0}, {1, 1}, {2, 1}, {3, 2}, {4, 2}}},
		{[][]int{nil, {4}, {3, 0}, nil, nil}, []int{2, 1}, []told{{1, 0}, {2, 0}, {0, 1}, {3, 1}, {4, 1}}},
		{[][]int{{0}}, []int{0}, []told{{0, 0}}},
	} {
		if got := breadth(c.g, c.from...); !slices.Equal(got, c.want) {
			t.Errorf("Breadth(%v, %v): %v, want %v", c.g, c.from, got, c.want)
		}
	}
}

func TestBreadthByHand(t *testing.T) {
	d := draw(12)
	for g := range graphs(13) {
		far := farByHand(g)
		from := d.some(3, len(g))
		var want []told
		for edges := range g {
			for node := range g {
				if farFrom(far, from, node) == edges {
					want = append(want, told{node, edges})
				}
			}
		}
		if got := breadth(g, from...); !slices.Equal(got, want) {
			t.Fatalf("Breadth(%v, %v): %v, want %v", g, from, got, want)
		}
	}
}

// It goes by what was handed in when it was called: neither g nor the beginnings are looked at behind that.
func TestBreadthOfThen(t *testing.T) {
	g, from := example(), []int{4, 0}
	want := breadth(g, from...)
	all := graph.Breadth(g, from...)
	wrongThen := graph.Breadth([][]int{{1}, {2}}, 0)
	check := func(when string) {
		t.Helper()
		var got []told
		for node, far := range all {
			got = append(got, told{node, far})
		}
		if !slices.Equal(got, want) {
			t.Errorf("%s: %v, want %v", when, got, want)
		}
	}
	from[0], from[1] = 1, 1
	check("other beginnings")
	g[0][1], g[2][0] = 4, 0
	check("other edges")
	g[1] = []int{1, 2, 3, 4}
	check("another row")
	g[0][0] = 99
	check("no graph any more")
	clear(g)
	check("no edges any more")
	for range wrongThen {
		t.Error("what was no graph tells something")
	}
	g = example()
	var got []told
	for node, far := range graph.Breadth(g, 0) {
		got = append(got, told{node, far})
		clear(g)
	}
	if !slices.Equal(got, breadth(example(), 0)) {
		t.Errorf("changed while it is ranged over: %v", got)
	}
	h := [][]int{{1}}
	was := graph.Breadth(h, 0)
	h[0][0] = 0
	for range was {
		t.Error("what was no graph, and is one now, tells something")
	}
}

// A body that has said it is done is not asked again.
func TestBreadthLeftEarly(t *testing.T) {
	all := graph.Breadth(example(), 0, 4)
	whole := breadth(example(), 0, 4)
	for stop := 1; stop <= len(whole); stop++ {
		n := 0
		all(func(node, far int) bool {
			if n >= stop || (told{node, far}) != whole[n] {
				t.Errorf("left at %d: %d at %d", stop, node, far)
			}
			n++
			return n < stop
		})
		if n != stop {
			t.Errorf("asked %d times, want %d", n, stop)
		}
	}
}

func TestBreadthAgainAndWithinItself(t *testing.T) {
	all := graph.Breadth(example(), 0)
	for range all {
		break
	}
	var got, want []told
	for a, far := range all {
		got = append(got, told{a, far})
		for b, far := range all {
			got = append(got, told{b, far})
			if b == 2 {
				break
			}
		}
	}
	whole := []told{{0, 0}, {1, 1}, {2, 1}, {3, 2}}
	for _, a := range whole {
		want = append(append(want, a), whole[:3]...)
	}
	if !slices.Equal(got, want) {
		t.Errorf("%v, want %v", got, want)
	}
	got = nil
	for node, far := range all {
		got = append(got, told{node, far})
	}
	if !slices.Equal(got, whole) {
		t.Errorf("again: %v", got)
	}
}

// R4: two know nothing of one another.
func TestTwoBreadths(t *testing.T) {
	g := example()
	n := 0
	for a := range graph.Breadth(g, 0) {
		if got := breadth(graph.Turn(g), a); got[0] != (told{a, 0}) {
			t.Errorf("within %d: %v", a, got)
		}
		n++
	}
	if n != 4 {
		t.Errorf("%d nodes", n)
	}
}

// What the body of a range gives up goes on to its asker.
func TestBreadthGivenUp(t *testing.T) {
	defer func() {
		if recover() != "given up" {
			t.Error("it does not go on")
		}
	}()
	for range graph.Breadth(example(), 0) {
		panic("given up")
	}
}
