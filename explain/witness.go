package explain

import (
	"slices"

	"augur/api"
	"augur/buchi"
	"augur/empty"
	"augur/words"
)

// Witness are a word behind u of which the formula holds, and one of which it
// fails: the least ones, where there are such.
func Witness(f api.Formula, names []string, u ...uint16) (holds, fails []api.Word, e api.Errno) {
	all, err := meaningOf(f, names)
	if err != api.OK {
		return nil, nil, err
	}
	isNone := func(letter uint16) bool { return int(letter) >= 1<<len(names) }
	if slices.ContainsFunc(u, isNone) {
		return nil, nil, api.ErrExplainForm
	}
	if holds, err = shown(all.holds, u); err != api.OK {
		return nil, nil, err
	}
	if fails, err = shown(all.fails, u); err != api.OK {
		return nil, nil, err
	}
	return holds, fails, api.OK
}

// shown is the least word behind u that an automaton accepts; none, if it accepts
// none there.
//
// Sets have live states alone. From the others nothing is accepted, so no word is
// lost; and of such sets there are no more than synth.Default allows.
func shown(a api.Buchi, u []uint16) ([]api.Word, api.Errno) {
	live, err := empty.Live(a)
	if err != api.OK {
		return nil, err
	}
	first := live.Copy() // for its width
	first.Less(live)
	for _, state := range a.Init {
		first.Put(state)
	}
	first.And(live)
	states := slices.Collect(behind(a, first, live, buchi.Step, u).All())
	w, found, err := empty.From(a, states...)
	if err != api.OK || !found {
		return nil, err
	}
	return []api.Word{words.Join(u, w)}, api.OK
}

// stateSet is what behind asks of sets of states.
type stateSet[S any] interface {
	And(S)
	Key() string
}

// move is a set, by its number, and a letter by which one goes on from it.
type move struct {
	from   int
	letter uint16
}

// behind are the live states to which one comes from the first ones by letters.
//
// A step looks at the whole automaton, and a row of letters may be long: so each
// move is made once, and then known.
func behind[S stateSet[S]](a api.Buchi, first, live S, step func(api.Buchi, S, uint16) S, u []uint16) S {
	sets := []S{first}
	numbers := map[string]int{first.Key(): 0}
	moves := map[move]int{}
	at := 0
	for _, letter := range u {
		by := move{at, letter}
		to, known := moves[by]
		if !known {
			next := step(a, sets[at], letter)
			next.And(live)
			key := next.Key()
			to, known = numbers[key]
			if !known {
				to = len(sets)
				numbers[key] = to
				sets = append(sets, next)
			}
			moves[by] = to
		}
		at = to
	}
	return sets[at]
}
