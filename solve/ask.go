package solve

import (
	"slices"

	"augur/api"
	"augur/buchi"
	"augur/empty"
	"augur/tableau"
	"augur/tree"
)

// mostNodes is how many states an automaton may have: a tableau of more nodes is
// none that buchi.Degen takes, so that no more of them need to be found.
const mostNodes = 65536

// maker makes of formulas the tree, in negation normal form, that is asked for.
type maker func(l ...api.Formula) (api.Formula, api.Errno)

// ask tells a word of which that holds which is made of formulas, if there is one.
func ask(made maker, names []string, l ...api.Formula) (api.Word, bool, api.Errno) {
	if !areFormulas(names, l...) {
		return api.Word{}, false, api.ErrSolveForm
	}
	f, err := made(l...)
	if err != api.OK {
		return api.Word{}, false, err
	}
	a, err := automatonOf(f, names)
	if err != api.OK {
		return api.Word{}, false, err
	}
	return empty.Witness(a)
}

// refute tells whether no such word is there; if one is, that word.
func refute(made maker, names []string, l ...api.Formula) (api.Word, bool, api.Errno) {
	w, found, err := ask(made, names, l...)
	return w, err == api.OK && !found, err
}

// areFormulas tells whether names are a list of names, and all of these are
// formulas over it.
func areFormulas(names []string, l ...api.Formula) bool {
	// An automaton without states has nothing but its list that could be wrong.
	if buchi.Check(api.Buchi{Props: names}) != api.OK {
		return false
	}
	isNone := func(f api.Formula) bool {
		lacking := func(name string) bool { return !slices.Contains(names, name) }
		return tree.Right(f) != api.OK || slices.ContainsFunc(tree.Names(f), lacking)
	}
	return !slices.ContainsFunc(l, isNone)
}

// automatonOf is that of the words of which a formula in negation normal form
// holds.
func automatonOf(f api.Formula, names []string) (api.Buchi, api.Errno) {
	t, err := tableau.Of(f, names, mostNodes)
	if err != api.OK {
		return api.Buchi{}, api.ErrBuchiForm // what buchi.Degen says of that many states
	}
	return buchi.Degen(t.General())
}
