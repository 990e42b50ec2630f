package words

import (
	"slices"

	"augur/api"
)

// Normal is the same infinite word in its normal form.
func Normal(w api.Word) api.Word {
	if !endless(w) {
		return api.Word{}
	}
	stem, loop := w.Stem, w.Loop[:period(w.Loop)]
	// The loop is turned once, at the end: a long stem may go into it whole.
	first := 0
	for len(stem) > 0 {
		last := (first + len(loop) - 1) % len(loop)
		if stem[len(stem)-1] != loop[last] {
			break
		}
		stem, first = stem[:len(stem)-1], last
	}
	return api.Word{Stem: copied(stem), Loop: turned(loop, first)}
}

// Same tells whether two are the same infinite word.
func Same(a, b api.Word) bool {
	if !endless(a) || !endless(b) {
		return false
	}
	a, b = Normal(a), Normal(b)
	return slices.Equal(a.Stem, b.Stem) && slices.Equal(a.Loop, b.Loop)
}

// isNormal is asked of a word that has a loop.
func isNormal(w api.Word) bool {
	if period(w.Loop) < len(w.Loop) {
		return false
	}
	return len(w.Stem) == 0 || w.Stem[len(w.Stem)-1] != w.Loop[len(w.Loop)-1]
}

// period is the length of the shortest row that the loop is, again and again.
//
// If the loop is a row of m letters and a row of n letters again and again, it
// is one of their greatest common divisor too: so it is enough to take away the
// prime factors of its length, one by one, as long as what is left still does.
func period(loop []uint16) int {
	shortest := len(loop)
	left := len(loop)
	for p := 2; left > 1; p++ {
		for left%p == 0 {
			left /= p
			if repeats(loop[:shortest], shortest/p) {
				shortest /= p
			}
		}
	}
	return shortest
}

// repeats tells whether a row is its first n letters, again and again; n divides
// its length.
func repeats(row []uint16, n int) bool { return slices.Equal(row[n:], row[:len(row)-n]) }

// turned is a row from its n-th letter on, and behind its end the letters ahead
// of that.
func turned(row []uint16, n int) []uint16 { return slices.Concat(row[n:], row[:n]) }

// copied is a row in new memory. (slices.Clone would keep hold of the old one,
// if the row is empty.)
func copied(row []uint16) []uint16 { return append([]uint16(nil), row...) }
