package past

import (
	"slices"

	"augur/api"
)

// part is a formula that stands in another one. Its kids are told by their
// numbers, so that parts are the same just where the formulas are.
type part struct {
	op   api.Op
	name uint16 // the bit that a letter has for its name
	kids [2]int // noughts, where there are fewer
}

// partsOf are the unlike formulas that stand in f, kids ahead, f the last. One
// that stands there often is told once, and so keeps one bit.
func partsOf(f api.Formula, names []string) []part {
	var list []part
	numbers := map[part]int{}
	var number func(api.Formula) int
	number = func(f api.Formula) int {
		p := part{op: f.Op}
		if f.Op == api.OpProp {
			p.name = 1 << slices.Index(names, f.Name)
		}
		for i, kid := range f.Kids {
			p.kids[i] = number(kid)
		}
		n, known := numbers[p]
		if !known {
			n = len(list)
			numbers[p] = n
			list = append(list, p)
		}
		return n
	}
	number(f)
	return list
}

func isPast(o api.Op) bool { return o >= api.OpYest && o <= api.OpTrig }

// moment is what a part finds at a step.
type moment struct {
	named bool // its name is so
	g     bool // its first kid holds
	h     bool // its second kid does
	kept  bool // what it kept at the step ahead
}

// meaning is what an operator makes of a moment.
type meaning struct {
	holds func(moment) bool
	keeps func(moment) bool // for the next step; of operators of the past alone
	first bool              // what it has kept, where no step was gone
}

// meanings has that of each operator that a formula of the past may have. Y and Z
// keep what their kid is for the step behind; the others need but to know whether
// they themselves held.
func meanings() [api.OpTrig + 1]meaning {
	return [...]meaning{
		api.OpTrue:     {holds: moment.always},
		api.OpFalse:    {holds: moment.never},
		api.OpProp:     {holds: moment.isNamed},
		api.OpNot:      {holds: moment.not},
		api.OpAnd:      {holds: moment.and},
		api.OpOr:       {holds: moment.or},
		api.OpImp:      {holds: moment.implies},
		api.OpIff:      {holds: moment.alike},
		api.OpYest:     {holds: moment.before, keeps: moment.kid, first: false},
		api.OpWeakYest: {holds: moment.before, keeps: moment.kid, first: true},
		api.OpOnce:     {holds: moment.once, keeps: moment.once, first: false},
		api.OpHist:     {holds: moment.ever, keeps: moment.ever, first: true},
		api.OpSince:    {holds: moment.since, keeps: moment.since, first: false},
		api.OpTrig:     {holds: moment.trigger, keeps: moment.trigger, first: true},
	}
}

func (m moment) always() bool { return true }

func (m moment) never() bool { return false }

func (m moment) isNamed() bool { return m.named }

func (m moment) not() bool { return !m.g }

func (m moment) and() bool { return m.g && m.h }

func (m moment) or() bool { return m.g || m.h }

func (m moment) implies() bool { return m.h || !m.g }

func (m moment) alike() bool { return m.g == m.h }

func (m moment) before() bool { return m.kept }

func (m moment) kid() bool { return m.g }

func (m moment) once() bool { return m.g || m.kept }

func (m moment) ever() bool { return m.g && m.kept }

func (m moment) since() bool { return m.h || m.g && m.kept }

func (m moment) trigger() bool { return m.h && (m.g || m.kept) }
