package solve_test

import (
	"math/bits"
	"slices"
	"testing"

	"augur/api"
	"augur/solve"
)

// placesOf are the places of the bits that are set, rising.
func placesOf(mask int) []int {
	var row []int
	for ; mask != 0; mask &= mask - 1 {
		row = append(row, bits.TrailingZeros(uint(mask)))
	}
	return row
}

// rowsOf are all rows of rising places below n: shorter ones first, those of one length place by place.
func rowsOf(n int) [][]int {
	var list [][]int
	for mask := range 1 << n {
		list = append(list, placesOf(mask))
	}
	slices.SortFunc(list, func(a, b []int) int {
		if len(a) != len(b) {
			return len(a) - len(b)
		}
		return slices.Compare(a, b)
	})
	return list
}

// at are the formulas of some places.
func at(l []api.Formula, row []int) []api.Formula {
	var some []api.Formula
	for _, place := range row {
		some = append(some, l[place])
	}
	return some
}

// all is the formula of some, as the chapter says it.
func all(l []api.Formula) api.Formula {
	switch last := len(l) - 1; {
	case last < 0:
		return op(api.OpTrue)
	case last == 0:
		return l[0]
	default:
		return op(api.OpAnd, all(l[:last]), l[last])
	}
}

// coreByHand tries the rows in their order.
func coreByHand(names []string, l []api.Formula) ([]int, bool, api.Errno) {
	for _, row := range rowsOf(len(l)) {
		if _, is, err := solve.Sat(all(at(l, row)), names); err != api.OK {
			return nil, false, err
		} else if !is {
			return row, true, api.OK
		}
	}
	return nil, false, api.OK
}

// TestRowsByHand holds what these tests lean on to what the chapter says of the order.
func TestRowsByHand(t *testing.T) {
	want := [][]int{nil, {0}, {1}, {2}, {0, 1}, {0, 2}, {1, 2}, {0, 1, 2}}
	if got := rowsOf(3); !slices.EqualFunc(got, want, slices.Equal) {
		t.Errorf("%v", got)
	}
}

// Lists of each length, drawn from what contradicts itself often: as all rows, by hand.
func TestCoreByHand(t *testing.T) {
	parts := append(readAll("a", "!a", "b", "!b", "G a", "F !a", "a -> b", "b -> X a", "X !a", "G F a", "F G !a", "a U b", "G !b", "F b", "a | b", "!(a & b)", "a <-> b", "X X b", "G (a -> X b)", "false", "true", "G (a -> X !a)"), some(60, 3)...)
	d := draw(31)
	lengths := map[int]int{}
	for i := range 180 {
		unlike := len(parts)
		if i%9 > 4 { // greater ones, many at once, take long
			unlike = 12
		}
		var l []api.Formula
		for range i % 9 {
			l = append(l, parts[d.below(unlike)])
		}
		row, found, err := coreByHand(ab(), l)
		if err != api.OK {
			t.Fatal(err)
		}
		wantCore(t, ab(), l, found, row...)
		lengths[len(row)]++
	}
	for length := range 4 {
		if lengths[length] < 5 {
			t.Errorf("%d cores of %d places: %v", lengths[length], length, lengths)
		}
	}
}

// Cores of each length up to all eight: at most all but one of so many names can be so, where they stand in a list.
func TestLongCores(t *testing.T) {
	for n := range 8 {
		l := []api.Formula{}
		for _, name := range names8()[:n] {
			l = append(l, op(api.OpNext, prop(name)))
		}
		wantCore(t, names8(), l, false)
		never := op(api.OpFalse) // all of those that are there, and one of them never
		for _, f := range l {
			never = op(api.OpOr, never, not(f))
		}
		for place := range n + 1 {
			var want []int
			for i := range n + 1 {
				want = append(want, i)
			}
			wantCore(t, names8(), slices.Insert(slices.Clone(l), place, never), true, want...)
		}
	}
}

// Of several cores: the shorter one ahead of one with lesser places, of one length the one with the least place, then the next one.
func TestFirstCore(t *testing.T) {
	for _, c := range []struct {
		texts []string
		want  []int
	}{
		{[]string{"a", "a -> b", "!b", "b"}, []int{2, 3}},
		{[]string{"a", "b", "!b", "!a"}, []int{0, 3}},
		{[]string{"b", "a", "!a", "!b", "G b"}, []int{0, 3}},
		{[]string{"a", "!a", "!a", "!a"}, []int{0, 1}},
		{[]string{"c", "a", "c", "c", "a", "!a", "a", "!a"}, []int{1, 5}},
		{[]string{"c", "b", "a", "a -> !b", "b -> !a", "a & b", "c", "c"}, []int{3, 5}},
		{[]string{"a", "b", "c", "!(a & b)", "!(b & c)", "!(a & c)"}, []int{0, 1, 3}},
		{[]string{"a", "c", "b", "!(b & c)", "!(b & c)", "!(a & b)"}, []int{0, 2, 5}},
		{[]string{"a", "!a", "c", "b", "c", "c", "c", "false"}, []int{7}},
		{[]string{"false", "false"}, []int{0}},
		{[]string{"true", "G F a & F G !a", "false"}, []int{1}},
		{[]string{"G F a", "F G b", "G (a -> !b)"}, []int{0, 1, 2}},
		{[]string{"X a", "X !a U b", "!b", "!X X !a", "G (b -> X !b)", "X !b", "X G !a"}, []int{0, 6}},
	} {
		wantCore(t, names8(), readAll(c.texts...), true, c.want...)
	}
}

// Nothing has no core; nor have eight that can hold together, nor the same one eight times.
func TestNoCore(t *testing.T) {
	wantCore(t, ab(), nil, false)
	wantCore(t, nil, nil, false)
	wantCore(t, ab(), []api.Formula{}, false)
	wantCore(t, names8(), readAll("a", "b", "c", "d", "e", "f", "g", "h"), false)
	wantCore(t, ab(), slices.Repeat(readAll("G F a"), 8), false)
	wantCore(t, nil, readAll("true", "!false", "X true", "G true"), false)
	wantCore(t, nil, readAll("true", "!false", "X true", "F false"), true, 3)
	wantCore(t, ab(), readAll("a", "X !a", "X X a", "G F a", "G F !a", "G (a | X a | X X a)"), false)
}

// Each row's formula alone is asked: what a list's other places say has no part in it.
func TestPlacesAlone(t *testing.T) {
	l := readAll("a", "b -> !a", "b", "X a", "c -> X !a", "c")
	wantCore(t, names8(), l, true, 0, 1, 2)
	wantCore(t, names8(), l[1:], true, 2, 3, 4)
	wantCore(t, names8(), l[2:], true, 1, 2, 3)
	wantCore(t, names8(), l[3:], true, 0, 1, 2)
	wantCore(t, names8(), l[4:], false)
}
