package bits

// Table numbers sets by their first coming.
type Table struct {
	width   int
	sets    []*Set
	numbers map[string]int // by the sets' keys
}

// NewTable is a table of sets of that width; nil, if it is not 0 to 65536.
func NewTable(width int) *Table {
	if !goodWidth(width) {
		return nil
	}
	return &Table{width: width, numbers: map[string]int{}}
}

// Intern is the number of a set, and whether it is new; -1 of a set of another
// width.
func (t *Table) Intern(s *Set) (int, bool) {
	if s.width != t.width {
		return -1, false
	}
	key := s.Key()
	if n, known := t.numbers[key]; known {
		return n, false
	}
	n := len(t.sets)
	t.numbers[key] = n
	t.sets = append(t.sets, s.Copy())
	return n, true
}

// Find is the number of a set; -1: it is not there.
func (t *Table) Find(s *Set) int {
	// Keys of unlike widths can be alike.
	if s.width != t.width {
		return -1
	}
	n, known := t.numbers[s.Key()]
	if !known {
		return -1
	}
	return n
}

// At is a copy of the set of that number; nil: there is none.
func (t *Table) At(i int) *Set {
	if i < 0 || i >= len(t.sets) {
		return nil
	}
	return t.sets[i].Copy()
}

// Len is how many sets there are.
func (t *Table) Len() int { return len(t.sets) }
