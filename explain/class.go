package explain

import (
	"augur/api"
	"augur/empty"
)

// Classify tells what kind of property a formula is.
func Classify(f api.Formula, names []string) (api.Class, api.Errno) {
	all, err := meaningOf(f, names)
	if err != api.OK {
		return api.Class{}, err
	}
	dead, err := Dead(all.monitor)
	if err != api.OK {
		return api.Class{}, err
	}
	someHolds, err := staysUnsure(all.holds, all.monitor)
	if err != api.OK {
		return api.Class{}, err
	}
	someFails, err := staysUnsure(all.fails, all.monitor)
	if err != api.OK {
		return api.Class{}, err
	}
	return api.Class{
		Valid:       all.monitor.Out[0] == api.True,
		Empty:       all.monitor.Out[0] == api.False,
		Safe:        !someFails,
		CoSafe:      !someHolds,
		Monitorable: len(dead) == 0, // a least machine has no states that are not reached
	}, api.OK
}

// staysUnsure tells whether an automaton accepts a word along which the monitor is
// inconclusive for ever.
//
// Along a word that fails the formula the monitor never says True, along one that
// holds it never False: so that is the word of which the classes ask, on either
// side.
func staysUnsure(a api.Buchi, monitor api.Moore) (bool, api.Errno) {
	live, err := empty.Live(a)
	if err != api.OK {
		return false, err
	}
	p := newPairs(a, monitor)
	// States that are not live are on no way on which final ones are met for ever.
	for _, e := range a.Edges {
		if live.Has(e.To) {
			p.edges[e.From] = append(p.edges[e.From], e)
		}
	}
	for _, state := range a.Init {
		if live.Has(state) {
			p.number(pair{state, 0})
		}
	}
	return p.accept(), api.OK
}
