package tableau

import (
	"cmp"
	"iter"
	"math/bits"

	"augur/api"
)

// set is small numbers: places of Subs, or letters. The bit i % 64 of the word
// i / 64 says whether it has i; there are as many bits as a formula has places,
// and more than there are letters.
type set [(api.MaxNodes + 63) / 64]uint64

// only is the set of one number.
func only(i int) set {
	var s set
	s.put(i)
	return s
}

func (s *set) put(i int) { s[i/64] |= 1 << (i % 64) }

func (s *set) has(i int) bool { return s[i/64]>>(i%64)&1 != 0 }

// join puts all of the other one into it.
func (s *set) join(other *set) {
	for i, word := range other {
		s[i] |= word
	}
}

// keep leaves in it what the other one has, too.
func (s *set) keep(other *set) {
	for i, word := range other {
		s[i] &= word
	}
}

// drop leaves in it what the other one has not.
func (s *set) drop(other *set) {
	for i, word := range other {
		s[i] &^= word
	}
}

// meets tells whether they have a number in common.
func (s *set) meets(other *set) bool {
	for i, word := range other {
		if s[i]&word != 0 {
			return true
		}
	}
	return false
}

// agree tells whether two others have the same numbers, those of s let by.
func (s *set) agree(one, other *set) bool {
	for i, word := range s {
		if (one[i]^other[i])&^word != 0 {
			return false
		}
	}
	return true
}

// all goes through its numbers, rising.
func (s *set) all() iter.Seq[int] {
	return func(yield func(int) bool) {
		for i, word := range s {
			for ; word != 0; word &= word - 1 {
				if !yield(i*64 + bits.TrailingZeros64(word)) {
					return
				}
			}
		}
	}
}

// list are its numbers, rising.
func (s *set) list() []int {
	var list []int
	for i := range s.all() {
		list = append(list, i)
	}
	return list
}

// greatest is its greatest number, if it has any.
func (s *set) greatest() (int, bool) {
	for i := len(s) - 1; i >= 0; i-- {
		if s[i] != 0 {
			return i*64 + bits.Len64(s[i]) - 1, true
		}
	}
	return 0, false
}

// compare orders sets by the number that has the bit i just if they have i.
func (s *set) compare(other *set) int {
	for i := len(s) - 1; i >= 0; i-- {
		if s[i] != other[i] {
			return cmp.Compare(s[i], other[i])
		}
	}
	return 0
}
