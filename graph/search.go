package graph

import "slices"

// none stands where there is no node, or no way.
const none = -1

// search is a way by breadth through what was looked at already and is a graph.
type search struct {
	order []int // the nodes that are reached, as they were met
	far   []int // of each node how far it is; none, if it is not reached
	ahead []int // of each node the one from which it was met; none of a beginning
}

// searchFrom goes from these, in their order, through all that they reach, by
// each node's edges in their order.
func searchFrom(g [][]int, from []int) search {
	s := search{far: nones(len(g)), ahead: nones(len(g))}
	for _, node := range from {
		if isNode(g, node) {
			s.meet(node, none, 0)
		}
	}
	for i := 0; i < len(s.order); i++ {
		node := s.order[i]
		for _, to := range g[node] {
			s.meet(to, node, s.far[node]+1)
		}
	}
	return s
}

func nones(n int) []int { return slices.Repeat([]int{none}, n) }

// meet notes a node, if it was not met already.
func (s *search) meet(node, ahead, far int) {
	if s.far[node] != none {
		return
	}
	s.order = append(s.order, node)
	s.far[node] = far
	s.ahead[node] = ahead
}

// wayTo is the way by which a node that is reached was met.
func (s *search) wayTo(node int) []int {
	way := make([]int, s.far[node]+1)
	for i := range slices.Backward(way) {
		way[i] = node
		node = s.ahead[node]
	}
	return way
}
