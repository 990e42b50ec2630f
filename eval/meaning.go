package eval

import (
	"slices"

	"augur/api"
	"augur/words"
)

// row is of each place whether a formula holds there. It is the table's own.
func (t *Table) row(f api.Formula) []bool {
	text := string(appendText(nil, f))
	if n, known := t.known[text]; known {
		return t.rows[n]
	}
	var kids [][]bool
	for _, kid := range f.Kids {
		kids = append(kids, t.row(kid))
	}
	row := t.found(f, kids)
	t.known[text] = len(t.rows)
	t.rows = append(t.rows, row)
	return row
}

// appendText writes a formula as no other one is written: Ops have as many kids
// as they have, and as bytes they are below all those of names.
func appendText(text []byte, f api.Formula) []byte {
	text = append(text, byte(f.Op))
	text = append(text, f.Name...)
	for _, kid := range f.Kids {
		text = appendText(text, kid)
	}
	return text
}

// found is the row of f, by those of its kids.
func (t *Table) found(f api.Formula, kids [][]bool) []bool {
	switch f.Op {
	case api.OpTrue, api.OpFalse:
		return t.backwards(false, func(int, bool) bool { return f.Op == api.OpTrue })
	case api.OpProp:
		bit := uint16(1) << slices.Index(t.names, f.Name)
		return t.backwards(false, func(place int, _ bool) bool { return words.At(t.word, place)&bit != 0 })
	case api.OpNext:
		return t.backwards(false, func(place int, _ bool) bool { return kids[0][words.Behind(t.word, place)] })
	}
	// Of an operator that has one kid g and h are the same.
	g, h := kids[0], kids[len(kids)-1]
	m := meanings()[f.Op]
	return t.backwards(m.forever, func(place int, later bool) bool { return m.holds(g[place], h[place], later) })
}

// backwards is a row that is found from the last place to the first: holds is
// handed a place, and what holds at the place behind it.
//
// Behind the last place comes the loop's first one, of which nothing is known
// yet: forever is what holds there, if no place of the loop settles it. If one
// does, going round the loop once finds what holds at its first place, whatever
// was said of it; if none does, forever stays. So the second round finds all.
func (t *Table) backwards(forever bool, holds func(place int, later bool) bool) []bool {
	row := make([]bool, t.Places())
	last := len(row) - 1
	loop := words.Behind(t.word, last)
	row[loop] = forever
	for _, first := range [...]int{loop, 0} {
		for place := last; place >= first; place-- {
			row[place] = holds(place, row[words.Behind(t.word, place)])
		}
	}
	return row
}

// meaning is whether an operator holds at a place: by what holds there of its
// kids, and whether it itself holds later, at the place behind.
type meaning struct {
	forever bool // whether it holds, where later settles it again and again
	holds   func(g, h, later bool) bool
}

// meanings has that of each operator whose kids are asked of the same place.
func meanings() [api.OpStrong + 1]meaning {
	until := func(g, h, later bool) bool { return h || g && later }
	release := func(g, h, later bool) bool { return h && (g || later) }
	return [...]meaning{
		api.OpNot:     {holds: func(g, _, _ bool) bool { return !g }},
		api.OpAnd:     {holds: func(g, h, _ bool) bool { return g && h }},
		api.OpOr:      {holds: func(g, h, _ bool) bool { return g || h }},
		api.OpImp:     {holds: func(g, h, _ bool) bool { return h || !g }},
		api.OpIff:     {holds: func(g, h, _ bool) bool { return g == h }},
		api.OpEvent:   {forever: false, holds: func(g, _, later bool) bool { return g || later }},
		api.OpAlways:  {forever: true, holds: func(g, _, later bool) bool { return g && later }},
		api.OpUntil:   {forever: false, holds: until},
		api.OpRelease: {forever: true, holds: release},
		api.OpWeak:    {forever: true, holds: until},
		api.OpStrong:  {forever: false, holds: release},
	}
}
