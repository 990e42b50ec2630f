package solve

import (
	"augur/api"
	"augur/empty"
)

// mostInCore is of how many formulas all rows are tried.
const mostInCore = 8

// Core is the first least row of places whose formulas cannot hold together.
func Core(names []string, l ...api.Formula) ([]int, bool, api.Errno) {
	if len(l) > mostInCore {
		return nil, false, api.ErrMuch
	}
	if !areFormulas(names, l...) {
		return nil, false, api.ErrSolveForm
	}
	if _, err := normalOf(together(l...)); err != api.OK {
		return nil, false, err
	}
	return firstRow(len(l), func(row []int) (bool, api.Errno) {
		some := make([]api.Formula, len(row))
		for i, place := range row {
			some[i] = l[place]
		}
		return clash(names, some...)
	})
}

// firstRow is the first row of rising places below n that a function takes: of the
// shortest ones the one with the least places. It ends at an error, too.
func firstRow(n int, takes func(row []int) (bool, api.Errno)) ([]int, bool, api.Errno) {
	var row []int
	var try func(least, more int) (bool, api.Errno)
	try = func(least, more int) (bool, api.Errno) {
		if more == 0 {
			return takes(row)
		}
		for place := least; place+more <= n; place++ {
			row = append(row, place)
			if ends, err := try(place+1, more-1); ends || err != api.OK {
				return ends, err
			}
			row = row[:len(row)-1]
		}
		return false, api.OK
	}
	for length := range n + 1 {
		if found, err := try(0, length); err != api.OK {
			return nil, false, err
		} else if found {
			return row, true, api.OK
		}
	}
	return nil, false, api.OK
}

// clash tells whether some formulas cannot hold together.
func clash(names []string, l ...api.Formula) (bool, api.Errno) {
	f, err := normalOf(together(l...))
	if err != api.OK {
		return false, err
	}
	a, err := automatonOf(f, names)
	if err != api.OK {
		return false, err
	}
	return empty.Empty(a)
}

// together is the formula of some: each one joined to those ahead of it.
func together(l ...api.Formula) api.Formula {
	if len(l) == 0 {
		return over(api.OpTrue)
	}
	all := l[0]
	for _, f := range l[1:] {
		all = over(api.OpAnd, all, f)
	}
	return all
}
