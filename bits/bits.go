// Package bits is layer 1: sets of small numbers, tables that number sets by
// their first coming, and numbers that wait. See shared/doc/01-bits.md.
package bits

import (
	"iter"
	"math/bits"
	"slices"
)

const (
	maxWidth = 65536
	wordBits = 64
)

// Set is a set of numbers below a width.
//
// Bits of the last word at or above the width are always 0: counting, comparing
// and searching whole words lean on it.
type Set struct {
	width int
	words []uint64
}

func goodWidth(width int) bool { return width >= 0 && width <= maxWidth }

// New is a set without any, of a width 0 to 65536; nil of another one.
func New(width int) *Set {
	if !goodWidth(width) {
		return nil
	}
	return &Set{width: width, words: make([]uint64, (width+wordBits-1)/wordBits)}
}

// Of is a set of that width with these numbers; those outside are let by.
func Of(width int, l ...int) *Set {
	s := New(width)
	if s == nil {
		return nil
	}
	for _, i := range l {
		s.Put(i)
	}
	return s
}

func (s *Set) inside(i int) bool { return i >= 0 && i < s.width }

func bit(i int) uint64 { return 1 << (i % wordBits) }

// Put makes it have i; a number outside is let by.
func (s *Set) Put(i int) {
	if s.inside(i) {
		s.words[i/wordBits] |= bit(i)
	}
}

// Cut makes it not have i.
func (s *Set) Cut(i int) {
	if s.inside(i) {
		s.words[i/wordBits] &^= bit(i)
	}
}

// Has tells whether it has i.
func (s *Set) Has(i int) bool {
	return s.inside(i) && s.words[i/wordBits]&bit(i) != 0
}

// Len is how many it has.
func (s *Set) Len() int {
	n := 0
	for _, w := range s.words {
		n += bits.OnesCount64(w)
	}
	return n
}

// Width is the bound below which its numbers are.
func (s *Set) Width() int { return s.width }

// First is the least one; -1: there is none.
func (s *Set) First() int { return s.from(0) }

// After is the least one above i; -1: there is none.
func (s *Set) After(i int) int {
	if i < 0 {
		return s.First()
	}
	// Asked ahead of i + 1, which the greatest int does not have.
	if i >= s.width {
		return -1
	}
	return s.from(i + 1)
}

// from is the least one that is not below i, which is not negative; -1: there
// is none.
func (s *Set) from(i int) int {
	if i >= s.width {
		return -1
	}
	k := i / wordBits
	// What is left of this word has none of the numbers below i.
	left := s.words[k] &^ (bit(i) - 1)
	for left == 0 {
		k++
		if k == len(s.words) {
			return -1
		}
		left = s.words[k]
	}
	return k*wordBits + bits.TrailingZeros64(left)
}

// All goes through them, rising.
func (s *Set) All() iter.Seq[int] {
	// A copy: what is put or cut from now on is not to be seen.
	was := s.Copy()
	return func(yield func(int) bool) {
		for i := was.First(); i >= 0; i = was.After(i) {
			if !yield(i) {
				return
			}
		}
	}
}

// word is the k-th word; a word behind the last one has no bits, so that sets
// of unlike widths can be worked on together.
func (s *Set) word(k int) uint64 {
	if k >= len(s.words) {
		return 0
	}
	return s.words[k]
}

// trim takes away what came in at or above the width.
func (s *Set) trim() {
	if s.width%wordBits != 0 {
		s.words[len(s.words)-1] &= bit(s.width) - 1
	}
}

// And leaves it what o has too.
func (s *Set) And(o *Set) {
	for k := range s.words {
		s.words[k] &= o.word(k)
	}
}

// Or gives it what o has, as far as its own width goes.
func (s *Set) Or(o *Set) {
	for k := range s.words {
		s.words[k] |= o.word(k)
	}
	s.trim()
}

// Less leaves it what o has not.
func (s *Set) Less(o *Set) {
	for k := range s.words {
		s.words[k] &^= o.word(k)
	}
}

// Same tells whether both have the same width and the same numbers.
func (s *Set) Same(o *Set) bool {
	return s.width == o.width && slices.Equal(s.words, o.words)
}

// Within tells whether all of s is in o, of whatever widths.
func (s *Set) Within(o *Set) bool {
	for k, w := range s.words {
		if w&^o.word(k) != 0 {
			return false
		}
	}
	return true
}

// Copy is another set that is the same, and knows nothing of this one.
func (s *Set) Copy() *Set {
	return &Set{width: s.width, words: slices.Clone(s.words)}
}

// Key is a text of its own for each set of a width: bit k of byte j says
// whether it has 8j + k.
func (s *Set) Key() string {
	key := make([]byte, (s.width+7)/8)
	for j := range key {
		key[j] = byte(s.words[j/8] >> (j % 8 * 8))
	}
	return string(key)
}
