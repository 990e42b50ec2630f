package words

import (
	"iter"

	"augur/api"
)

// All goes through all infinite words of at most so many places, each once.
func All(props, size int) iter.Seq[api.Word] {
	if !goodProps(props) {
		size = 0
	}
	// One letter makes one infinite word alone: to look for others in all sizes
	// might not end.
	if props == 0 {
		size = min(size, 1)
	}
	// All that changes is made within, so that it can be ranged over again, and
	// within itself.
	return func(yield func(api.Word) bool) {
		for places := 1; places <= size; places++ {
			for stem := range places {
				if !ofShape(stem, places, 1<<props, yield) {
					return
				}
			}
		}
	}
}

// ofShape yields the normal words with that many letters of a stem, and that
// many places in all, whose letters are below a bound, in their order; false, if
// it was told to stop.
func ofShape(stem, places int, below uint16, yield func(api.Word) bool) bool {
	row := make([]uint16, 0, places)
	var grow func() bool
	grow = func() bool {
		if len(row) == places {
			w := api.Word{Stem: row[:stem], Loop: row[stem:]}
			return !isNormal(w) || yield(api.Word{Stem: copied(w.Stem), Loop: copied(w.Loop)})
		}
		for letter := range below {
			row = append(row, letter)
			if !grow() {
				return false
			}
			row = row[:len(row)-1]
		}
		return true
	}
	return grow()
}
