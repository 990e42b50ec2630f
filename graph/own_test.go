package graph_test

import (
	"slices"
	"sync"
	"testing"

	"augur/graph"
)

// memory notes which memory lists have, the room behind them with it. (By where each item is: pointers of one type are alike just if they point to one thing.)
type memory struct {
	t    *testing.T
	seen map[any]string
}

func note[T any](m memory, who string, list []T) {
	m.t.Helper()
	whole := list[:cap(list)]
	for i := range whole {
		at := any(&whole[i])
		if other, twice := m.seen[at]; twice {
			m.t.Fatalf("%s shares memory with %s", who, other)
		}
		m.seen[at] = who
	}
}

func (m memory) graph(who string, g [][]int) {
	m.t.Helper()
	note(m, who, g)
	for _, row := range g {
		note(m, who+": a row", row)
	}
}

// spoil changes all of a list, and the room behind it.
func spoil[T any](list []T, with T) {
	whole := list[:cap(list)]
	for i := range whole {
		whole[i] = with
	}
}

func spoilGraph(g [][]int) {
	for _, row := range g {
		spoil(row, 99)
	}
	spoil(g, []int{99})
}

// roomy is a list with something behind it.
func roomy[T any](list []T, room T) []T {
	return append(slices.Clip(slices.Clone(list)), room)[:len(list)]
}

// room is what stands behind a roomy list.
func room[T any](list []T) T { return list[:len(list)+1][len(list)] }

// lent is a copy with something behind each list; kept tells whether all of that is as it was.
func lent(g [][]int) [][]int {
	l := roomy(g, []int{-7})
	for i, row := range g {
		l[i] = roomy(row, -7)
	}
	return l
}

func kept(l, g [][]int) bool {
	for _, row := range l {
		if room(row) != -7 {
			return false
		}
	}
	return same(l, g) && slices.Equal(room(l), []int{-7})
}

// answers are what all calls answer, of one graph.
type answers struct {
	parts, far, way     []int
	many                int
	cyclic, reach, back []bool
	turned              [][]int
	breadth             []told
}

func ask(g [][]int, from []int, goal func(int) bool) answers {
	var a answers
	graph.Check(g)
	a.parts, a.many = graph.Parts(g)
	a.cyclic = graph.Cyclic(g, a.parts)
	a.reach, a.back, a.far = graph.Reach(g, from...), graph.Back(g, from...), graph.Far(g, from...)
	a.way, _ = graph.Way(g, from, goal)
	a.turned = graph.Turn(g)
	a.breadth = breadth(g, from...)
	return a
}

func (a answers) same(b answers) bool {
	return slices.Equal(a.parts, b.parts) && a.many == b.many && slices.Equal(a.cyclic, b.cyclic) && slices.Equal(a.reach, b.reach) &&
		slices.Equal(a.back, b.back) && slices.Equal(a.far, b.far) && slices.Equal(a.way, b.way) && same(a.turned, b.turned) && slices.Equal(a.breadth, b.breadth)
}

// note notes the memory of all that was answered.
func (a answers) note(m memory) {
	m.t.Helper()
	note(m, "Parts", a.parts)
	note(m, "Cyclic", a.cyclic)
	note(m, "Reach", a.reach)
	note(m, "Back", a.back)
	note(m, "Far", a.far)
	note(m, "Way", a.way)
	m.graph("Turn", a.turned)
}

func (a answers) spoil() {
	spoil(a.parts, 99)
	spoil(a.cyclic, true)
	spoil(a.reach, true)
	spoil(a.back, true)
	spoil(a.far, 99)
	spoil(a.way, 99)
	spoilGraph(a.turned)
}

// R2: what is handed in stays as it is, with the room behind it; nothing of it is kept; what comes out is the asker's own.
func TestOwn(t *testing.T) {
	d := draw(19)
	for range 500 {
		g := d.graph(8)
		from, goal := d.some(3, len(g)), among(d.some(3, len(g))...)
		want := ask(g, from, goal)
		x, y := lent(g), roomy(from, -7)
		m := memory{t, map[any]string{}}
		m.graph("what is lent", x)
		note(m, "what is lent", y)
		all := graph.Breadth(x, y...)
		for range 3 {
			got := ask(x, y, goal)
			if !kept(x, g) || !slices.Equal(y, from) || room(y) != -7 {
				t.Fatalf("%v, %v are not as they were: %v, %v", g, from, x, y)
			}
			if !got.same(want) {
				t.Fatalf("%+v, and then %+v", want, got)
			}
			got.note(m)
			got.spoil()
		}
		keep := ask(x, y, goal)
		of := roomy(keep.parts, -7)
		if got := graph.Cyclic(x, of); !slices.Equal(got, want.cyclic) || !slices.Equal(of, want.parts) || room(of) != -7 {
			t.Fatalf("Cyclic changes %v", of)
		}
		spoilGraph(x)
		spoil(y, 99)
		var got []told
		for node, far := range all {
			got = append(got, told{node, far})
		}
		if !keep.same(want) || !slices.Equal(got, want.breadth) {
			t.Fatalf("%+v, and then %+v, %v", want, keep, got)
		}
	}
}

// R6: a list that is nil and one that is empty are the same.
func TestNilAndEmpty(t *testing.T) {
	nils, empties := [][]int{nil, {0}, nil}, [][]int{{}, {0}, {}}
	for _, from := range [][]int{nil, {}, {1}} {
		if !ask(nils, from, anyNode).same(ask(empties, from, anyNode)) {
			t.Errorf("from %v: %+v", from, ask(nils, from, anyNode))
		}
	}
	for _, from := range [][]int{nil, {}} {
		a := ask(example(), from, anyNode)
		if len(a.way) != 0 || len(a.breadth) != 0 || slices.Contains(a.reach, true) || slices.Contains(a.back, true) || slices.Max(a.far) != -1 {
			t.Errorf("%+v", a)
		}
	}
}

// The order of edges, and how often each is there, changes nothing but what Turn tells.
func TestOrderOfEdges(t *testing.T) {
	d := draw(20)
	for range 1000 {
		g := d.graph(8)
		from, goal := d.some(3, len(g)), among(d.some(3, len(g))...)
		h := make([][]int, len(g))
		for i, row := range g {
			for range 2 {
				for _, to := range slices.Backward(row) {
					h[i] = slices.Insert(h[i], d.below(len(h[i])+1), to)
				}
			}
		}
		slices.Reverse(from)
		a, b := ask(g, from, goal), ask(h, from, goal)
		a.turned, b.turned = nil, nil
		if !a.same(b) {
			t.Fatalf("%v: %+v; %v: %+v", g, a, h, b)
		}
	}
}

// Graphs, and what goes through one, are lent to several at one time.
func TestAtOneTime(t *testing.T) {
	d := draw(21)
	g := d.graph(20)
	from := []int{0, 1}
	want := ask(g, from, among(len(g)-1))
	all := graph.Breadth(g, from...)
	var group sync.WaitGroup
	for range 8 {
		group.Go(func() {
			for range 50 {
				n := 0
				for range all {
					n++
				}
				if got := ask(g, from, among(len(g)-1)); !got.same(want) || n != len(want.breadth) {
					t.Errorf("%+v, and then %+v", want, got)
				}
			}
		})
	}
	group.Wait()
}
