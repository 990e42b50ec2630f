package tableau

// search finds the pairs that fit a set.
type search struct {
	*maker
	seen map[stage]struct{} // where there was a choice
	row  []int              // the numbers of what was found, some of them several times
}

// stage is a pair on its way, and the places of the formulas whose side is chosen.
type stage struct {
	pair
	chosen set
}

// begin goes on from a set; false, as soon as there are more nodes than most.
func (s *search) begin(fit set) bool {
	now := gain{letters: lettersOf(0, 0)}
	for at := range fit.all() {
		now.take(&s.parts[at].comes)
	}
	return !now.canBe() || s.goOn(now, set{})
}

// goOn finds all that comes of now, which can be, by choosing what is not chosen
// yet; false, as soon as there are more nodes than most.
func (s *search) goOn(now gain, chosen set) bool {
	s.settle(&now, &chosen)
	open := s.open(&now, &chosen)
	at, is := open.greatest()
	if !is {
		s.row = append(s.row, s.number(now.pair))
		return len(s.pairs) <= s.most
	}
	// Unlike choices may come to one stage: what comes of that was found then.
	here := stage{now.pair, chosen}
	if _, twice := s.seen[here]; twice {
		return true
	}
	s.seen[here] = struct{}{}
	chosen.put(at)
	p := &s.parts[at]
	return s.goOn(now.with(p.one), chosen) && s.goOn(now.with(p.other), chosen)
}

// settle chooses wherever there is but one way to go on.
func (s *search) settle(now *gain, chosen *set) {
	for again := true; again; {
		again = false
		open := s.open(now, chosen)
		for at := range open.all() {
			if side, is := s.parts[at].onlyWay(now); is {
				now.take(side)
				chosen.put(at)
				again = true
			}
		}
	}
}

// open are the places of the formulas whose side is not chosen.
func (s *search) open(now *gain, chosen *set) set {
	open := now.old
	open.keep(&s.choices)
	open.drop(chosen)
	return open
}
