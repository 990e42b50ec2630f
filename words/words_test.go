package words_test

import (
	"iter"
	"math"
	"slices"
	"strconv"
	"strings"
	"testing"

	"augur/api"
	"augur/words"
)

// of is a word by its text, however that is written; of no loop, if there are no brackets.
func of(text string) api.Word {
	stem, loop, _ := strings.Cut(strings.TrimRight(text, ") "), "(")
	return api.Word{Stem: numbers(stem), Loop: numbers(loop)}
}

func numbers(text string) []uint16 {
	var list []uint16
	for _, field := range strings.Fields(text) {
		n, err := strconv.ParseUint(field, 10, 16)
		if err != nil {
			panic(err)
		}
		list = append(list, uint16(n))
	}
	return list
}

// alike tells whether two are written alike.
func alike(a, b api.Word) bool {
	return slices.Equal(a.Stem, b.Stem) && slices.Equal(a.Loop, b.Loop)
}

// unrolled are the first n letters, one behind the other, another way than the program has.
func unrolled(w api.Word, n int) []uint16 {
	list := slices.Clone(w.Stem)
	for len(list) < n {
		list = append(list, w.Loop...)
	}
	return list[:n]
}

// rows are all rows of n letters below a bound, the lesser ahead.
func rows(n, below int) [][]uint16 {
	list := [][]uint16{nil}
	for range n {
		var longer [][]uint16
		for _, row := range list {
			for letter := range below {
				longer = append(longer, slices.Concat(row, []uint16{uint16(letter)}))
			}
		}
		list = longer
	}
	return list
}

// written are all ways to write words of at most that many places, by places, then by the stem, then by the letters.
func written(below, most int) iter.Seq[api.Word] {
	return func(yield func(api.Word) bool) {
		for places := 1; places <= most; places++ {
			list := rows(places, below)
			for stem := range places {
				for _, row := range list {
					if !yield(api.Word{Stem: slices.Clone(row[:stem]), Loop: slices.Clone(row[stem:])}) {
						return
					}
				}
			}
		}
	}
}

// loopless are some that have no loop, and so are no words.
func loopless() []api.Word {
	return []api.Word{{}, {Stem: []uint16{}, Loop: []uint16{}}, {Stem: []uint16{1}}, {Stem: []uint16{1, 2, 3}, Loop: []uint16{}}, {Loop: make([]uint16, 0, 4)}}
}

func TestErrorNumbers(t *testing.T) {
	if api.ErrArg != 1 || api.ErrWordsForm != 50 || api.ErrWordsText != 51 {
		t.Error(int(api.ErrArg), int(api.ErrWordsForm), int(api.ErrWordsText))
	}
}

func TestCheck(t *testing.T) {
	for props := range api.MaxProps + 1 {
		greatest := uint16(1)<<props - 1
		for _, w := range []api.Word{{Loop: []uint16{greatest}}, {Stem: []uint16{0, greatest}, Loop: []uint16{greatest, 0}}} {
			if e := words.Check(w, props); e != api.OK {
				t.Errorf("%v over %d: %v", w, props, e)
			}
		}
		for _, above := range []uint16{greatest + 1, 256, 0x8000, 0xffff} {
			for _, w := range []api.Word{
				{Loop: []uint16{above}}, {Loop: []uint16{0, above}}, {Loop: []uint16{above, 0}},
				{Stem: []uint16{above}, Loop: []uint16{0}}, {Stem: []uint16{0, above, 0}, Loop: []uint16{0}}, {Stem: []uint16{above}},
			} {
				if e := words.Check(w, props); e != api.ErrWordsForm {
					t.Errorf("%v over %d: %v", w, props, e)
				}
			}
		}
		for _, w := range loopless() {
			if e := words.Check(w, props); e != api.ErrWordsForm {
				t.Errorf("%v over %d: %v", w, props, e)
			}
		}
	}
}

// R1: the number of names goes ahead.
func TestCheckOfNoNumberOfNames(t *testing.T) {
	for _, props := range []int{-1, 9, 10, 16, 17, 63, 64, 65, 256, -8, math.MaxInt, math.MinInt, math.MinInt + 1} {
		for _, w := range append(loopless(), of("(0)"), of("1 (0)"), of("(65535)")) {
			if e := words.Check(w, props); e != api.ErrArg {
				t.Errorf("%v over %d: %v", w, props, e)
			}
		}
	}
}

func TestWithoutALoop(t *testing.T) {
	some := of("1 (2)")
	for _, w := range loopless() {
		for _, n := range []int{-1, 0, 1, 2, 3, math.MaxInt, math.MinInt} {
			if got := words.Behind(w, n); got != -1 {
				t.Errorf("Behind(%v, %d) is %d", w, n, got)
			}
			if got := words.At(w, n); got != 0 {
				t.Errorf("At(%v, %d) is %d", w, n, got)
			}
			if got := words.Suffix(w, n); !alike(got, api.Word{}) {
				t.Errorf("Suffix(%v, %d) is %v", w, n, got)
			}
			if got := words.Prefix(w, n); len(got) != 0 {
				t.Errorf("Prefix(%v, %d) is %v", w, n, got)
			}
		}
		if got := words.Places(w); got != 0 {
			t.Errorf("Places(%v) is %d", w, got)
		}
		if got := words.Normal(w); !alike(got, api.Word{}) {
			t.Errorf("Normal(%v) is %v", w, got)
		}
		for _, u := range [][]uint16{nil, {}, {1}, {1, 2}} {
			if got := words.Join(u, w); !alike(got, api.Word{}) {
				t.Errorf("Join(%v, %v) is %v", u, w, got)
			}
		}
		if words.Same(w, w) || words.Same(w, some) || words.Same(some, w) {
			t.Errorf("%v is the same as something", w)
		}
		if got := words.Show(w); got != "" {
			t.Errorf("Show(%v) is %q", w, got)
		}
	}
}

func TestPlacesAndBehind(t *testing.T) {
	for stem := range 4 {
		for loop := 1; loop < 5; loop++ {
			w := api.Word{Stem: make([]uint16, stem), Loop: make([]uint16, loop)}
			if got := words.Places(w); got != stem+loop {
				t.Errorf("Places of %d and %d is %d", stem, loop, got)
			}
			for place := range stem + loop - 1 {
				if got := words.Behind(w, place); got != place+1 {
					t.Errorf("Behind of %d and %d at %d is %d", stem, loop, place, got)
				}
			}
			if got := words.Behind(w, stem+loop-1); got != stem {
				t.Errorf("Behind of %d and %d at the last is %d", stem, loop, got)
			}
			for _, place := range []int{-1, -2, stem + loop, stem + loop + 1, math.MaxInt, math.MinInt} {
				if got := words.Behind(w, place); got != -1 {
					t.Errorf("Behind of %d and %d at %d is %d", stem, loop, place, got)
				}
			}
		}
	}
}

// Example 4.
func TestBehindExample(t *testing.T) {
	w := of("1 2 (3 4)")
	for place, want := range map[int]int{0: 1, 3: 2, 4: -1} {
		if got := words.Behind(w, place); got != want {
			t.Errorf("behind %d: %d", place, got)
		}
	}
}

// At and Prefix tell the letters; along the places, Behind by Behind, come the same.
func TestLetters(t *testing.T) {
	for w := range written(3, 5) {
		want := unrolled(w, 17)
		place := 0
		for i, letter := range want {
			if got := words.At(w, i); got != letter {
				t.Fatalf("At(%v, %d) is %d", w, i, got)
			}
			if got := words.At(w, place); got != letter {
				t.Fatalf("%v at the place %d: %d, want %d", w, place, got, letter)
			}
			place = words.Behind(w, place)
			if got := words.Prefix(w, i); !slices.Equal(got, want[:i]) {
				t.Fatalf("Prefix(%v, %d) is %v", w, i, got)
			}
		}
	}
}

func TestFarLetters(t *testing.T) {
	w := of("1 2 (3 4 65535)")
	for i, want := range map[int]uint16{-1: 0, math.MinInt: 0, 0: 1, 1: 2, 2: 3, 4: 65535, 5: 3, 3_000_000_002: 3, 3_000_000_003: 4, 3_000_000_004: 65535} {
		if got := words.At(w, i); got != want {
			t.Errorf("at %d: %d, want %d", i, got, want)
		}
	}
	if got, want := words.At(w, math.MaxInt), w.Loop[(math.MaxInt-2)%3]; got != want {
		t.Errorf("at the greatest: %d, want %d", got, want)
	}
}

func TestPrefixBounds(t *testing.T) {
	w := of("7 (1 2 3)")
	for n, want := range map[int]int{-1: 0, math.MinInt: 0, 0: 0, 1: 1, 65535: 65535, 65536: 65536, 65537: 65536, 1 << 17: 65536, math.MaxInt: 65536} {
		if got := words.Prefix(w, n); !slices.Equal(got, unrolled(w, want)) {
			t.Errorf("Prefix by %d has %d letters, or others", n, len(got))
		}
	}
}
