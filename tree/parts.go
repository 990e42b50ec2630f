package tree

import (
	"iter"
	"strconv"

	"augur/api"
)

// parts goes through what stands in f, a tree ahead of its kids, each with its
// place: which kid of f it is in, which kid of that, and so on. Place and part
// are lent: the place is good till the next one comes, the part is f's own.
func parts(f api.Formula) iter.Seq2[[]int, api.Formula] {
	return func(yield func([]int, api.Formula) bool) {
		var place []int
		var walk func(api.Formula) bool
		walk = func(f api.Formula) bool {
			if !yield(place, f) {
				return false
			}
			for i, kid := range f.Kids {
				place = append(place, i)
				if !walk(kid) {
					return false
				}
				place = place[:len(place)-1]
			}
			return true
		}
		walk(f)
	}
}

// pathOf is a place as a text.
func pathOf(place []int) string {
	var text []byte
	for i, step := range place {
		if i > 0 {
			text = append(text, '.')
		}
		text = strconv.AppendInt(text, int64(step), 10)
	}
	return string(text)
}

// rebuilt is f in new memory, with what leaf makes of each tree that has no
// kids.
func rebuilt(f api.Formula, leaf func(api.Formula) api.Formula) api.Formula {
	if len(f.Kids) == 0 {
		return leaf(api.Formula{Op: f.Op, Name: f.Name})
	}
	kids := make([]api.Formula, len(f.Kids))
	for i, kid := range f.Kids {
		kids[i] = rebuilt(kid, leaf)
	}
	return api.Formula{Op: f.Op, Name: f.Name, Kids: kids}
}

// sized is a tree and its Size.
type sized struct {
	size int
	tree api.Formula
}

// row is a step of telling a tree by numbers: its Op and Name; or what is told
// already, and the number of the next kid; or that, and 0: there are no more.
type row struct {
	op    api.Op
	name  string
	ahead int
	kid   int
}

// unlike are the trees that stand in f, each unlike one once, kids ahead. They
// are told apart by numbers, so that a great tree that stands there often is
// not compared as often.
func unlike(f api.Formula) []sized {
	var list []sized
	numbers := map[row]int{}
	number := func(r row) (int, bool) {
		if n, known := numbers[r]; known {
			return n, false
		}
		n := len(numbers) + 1
		numbers[r] = n
		return n, true
	}
	var visit func(api.Formula) (int, int)
	visit = func(f api.Formula) (int, int) {
		n, _ := number(row{op: f.Op, name: f.Name})
		size := 1
		for _, kid := range f.Kids {
			k, s := visit(kid)
			n, _ = number(row{ahead: n, kid: k})
			size += s
		}
		n, fresh := number(row{ahead: n})
		if fresh {
			list = append(list, sized{size, f})
		}
		return n, size
	}
	visit(f)
	return list
}
