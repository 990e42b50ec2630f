package tableau

import (
	"cmp"
	"slices"

	"augur/api"
	"augur/tree"
)

// pair is an Old and a Due.
type pair struct {
	old set
	due set
}

// gain is what comes into a pair, and the letters by which all that is in its Old
// can be so. What has no letters cannot be.
//
// Letters are told ahead of choices: by each of them some side of each formula in
// Old can be so. So, as long as there is one, some choice ends in a pair.
type gain struct {
	pair
	letters set
}

func (g *gain) canBe() bool { return g.letters != set{} }

// take has the other one come, too.
func (g *gain) take(other *gain) {
	g.old.join(&other.old)
	g.due.join(&other.due)
	g.letters.keep(&other.letters)
}

// with is both of them.
func (g gain) with(other gain) gain {
	g.take(&other)
	return g
}

// either is what comes whichever of the two is taken; one that cannot be is not
// taken.
func (g gain) either(other gain) gain {
	switch {
	case !g.canBe():
		return other
	case !other.canBe():
		return g
	}
	g.old.keep(&other.old)
	g.due.keep(&other.due)
	g.letters.join(&other.letters)
	return g
}

// later is this, and a formula that is due.
func (g gain) later(at int) gain {
	g.due.put(at)
	return g
}

// part is what a formula of Subs brings into a pair.
type part struct {
	must   uint16 // the name's bit, if it is a name
	not    uint16 // that, if it is the negation of one
	comes  gain   // whatever is chosen
	choice bool   // whether there is anything to choose
	one    gain   // what the one side brings
	other  gain
}

// sides has it bring the one or the other.
func (p *part) sides(one, other gain) {
	p.comes = p.comes.with(one.either(other))
	p.choice = one.pair != other.pair && one.canBe() && other.canBe()
	p.one, p.other = one, other
}

// onlyWay is the side that it has by now, if that leaves no choice: the other one
// cannot be, or brings the same.
func (p *part) onlyWay(now *gain) (*gain, bool) {
	if !now.letters.meets(&p.one.letters) {
		return &p.other, true
	}
	same := now.old.agree(&p.one.old, &p.other.old) && now.due.agree(&p.one.due, &p.other.due)
	return &p.one, same || !now.letters.meets(&p.other.letters)
}

// partsOf are the parts of Subs, each by its kids, which stand ahead of it.
func partsOf(subs []api.Formula, names []string) []part {
	parts := make([]part, len(subs))
	for at, f := range subs {
		var places [2]int
		var kids [2]part
		for i, kid := range f.Kids {
			places[i] = placeOf(kid, subs)
			kids[i] = parts[places[i]]
		}
		a, b := kids[0].comes, kids[1].comes
		p := part{comes: gain{pair{old: only(at)}, lettersOf(0, 0)}}
		switch f.Op {
		case api.OpFalse:
			p.comes.letters = set{}
		case api.OpProp:
			p.must = 1 << slices.Index(names, f.Name)
			p.comes.letters = lettersOf(p.must, 0)
		case api.OpNot:
			p.not = kids[0].must
			p.comes.letters = lettersOf(0, p.not)
		case api.OpAnd:
			p.comes = p.comes.with(a).with(b)
		case api.OpOr:
			p.sides(a, b)
		case api.OpNext:
			p.comes = p.comes.later(places[0])
		case api.OpUntil:
			p.sides(b, a.later(at))
		case api.OpRelease:
			p.sides(a.with(b), b.later(at))
		}
		parts[at] = p
	}
	return parts
}

// placeOf is where a formula stands in Subs.
func placeOf(f api.Formula, subs []api.Formula) int {
	place, _ := slices.BinarySearchFunc(subs, f, func(a, b api.Formula) int {
		return cmp.Or(cmp.Compare(tree.Size(a), tree.Size(b)), tree.Cmp(a, b))
	})
	return place
}

// lettersOf are the letters that have all bits of must, and none of not. They are
// over as many names as there may be: those beyond the list's are never asked.
func lettersOf(must, not uint16) set {
	var s set
	for letter := range uint16(1 << api.MaxProps) {
		if letter&must == must && letter&not == 0 {
			s.put(int(letter))
		}
	}
	return s
}
