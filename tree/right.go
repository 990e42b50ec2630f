package tree

import "augur/api"

// kidsOf has for each Op how many kids it has.
var kidsOf = [...]int{
	api.OpTrue:     0,
	api.OpFalse:    0,
	api.OpProp:     0,
	api.OpNot:      1,
	api.OpAnd:      2,
	api.OpOr:       2,
	api.OpImp:      2,
	api.OpIff:      2,
	api.OpNext:     1,
	api.OpEvent:    1,
	api.OpAlways:   1,
	api.OpUntil:    2,
	api.OpRelease:  2,
	api.OpWeak:     2,
	api.OpStrong:   2,
	api.OpYest:     1,
	api.OpWeakYest: 1,
	api.OpOnce:     1,
	api.OpHist:     1,
	api.OpSince:    2,
	api.OpTrig:     2,
}

func isFuture(o api.Op) bool { return o >= api.OpNext && o <= api.OpStrong }

func isPast(o api.Op) bool { return o >= api.OpYest && o <= api.OpTrig }

// isName tells whether a text is a name.
func isName(s string) bool {
	if len(s) == 0 || len(s) > api.MaxName {
		return false
	}
	for i := range len(s) {
		if b := s[i]; b < 0x20 || b > 0x7e || b == '"' || b == '\\' {
			return false
		}
	}
	return true
}

func isProp(f api.Formula, name string) bool { return f.Op == api.OpProp && f.Name == name }

// formed tells whether a tree is well formed, its kids not looked at.
func formed(f api.Formula) bool {
	if f.Op < api.OpTrue || f.Op > api.OpTrig || len(f.Kids) != kidsOf[f.Op] {
		return false
	}
	if f.Op == api.OpProp {
		return isName(f.Name)
	}
	return f.Name == ""
}

func wellFormed(f api.Formula) bool {
	for _, part := range parts(f) {
		if !formed(part) {
			return false
		}
	}
	return true
}

// within is what Right and RightPast tell; other are the Ops that the formula
// may not have.
func within(f api.Formula, other func(api.Op) bool) api.Errno {
	var m measure
	// What is too great is told at the end alone: an error of form goes ahead of
	// it, wherever it stands.
	for place, part := range parts(f) {
		if !formed(part) || other(part.Op) {
			return api.ErrTreeForm
		}
		m.add(1, len(place)+1)
	}
	if !m.fits() {
		return api.ErrTreeBig
	}
	return api.OK
}

// fits tells whether f, in which each OpProp of that name is by, is within the
// bounds. It is not made for that: it might be far too great.
func fits(f api.Formula, name string, by api.Formula) bool {
	size, depth := Size(by), Depth(by)
	var m measure
	for place, part := range parts(f) {
		if isProp(part, name) {
			m.add(size, len(place)+depth)
		} else {
			m.add(1, len(place)+1)
		}
		if !m.fits() {
			return false
		}
	}
	return true
}

// measure is how great and how deep a tree is, as far as it was seen.
type measure struct {
	size  int
	depth int
}

func (m *measure) add(size, depth int) {
	m.size += size
	m.depth = max(m.depth, depth)
}

func (m *measure) fits() bool { return m.size <= api.MaxNodes && m.depth <= api.MaxDepth }

// pairable has for each name of from its place there; false, if from and to do
// not go together.
func pairable(from, to []string) (map[string]int, bool) {
	if len(from) != len(to) {
		return nil, false
	}
	places := make(map[string]int, len(from))
	for i, name := range from {
		if _, twice := places[name]; twice || !isName(name) || !isName(to[i]) {
			return nil, false
		}
		places[name] = i
	}
	return places, true
}
