package words_test

import (
	"math"
	"slices"
	"strings"
	"testing"

	"augur/api"
	"augur/words"
)

// told are all words, as texts.
func told(props, size int) []string {
	var list []string
	for w := range words.All(props, size) {
		list = append(list, words.Show(w))
	}
	return list
}

// Example 3.
func TestAllExamples(t *testing.T) {
	if got := told(1, 2); !slices.Equal(got, []string{"(0)", "(1)", "(0 1)", "(1 0)", "0 (1)", "1 (0)"}) {
		t.Errorf("%q", got)
	}
	if got := told(0, 3); !slices.Equal(got, []string{"(0)"}) {
		t.Errorf("%q", got)
	}
}

// Of all ways to write words just those that are normal, in that order.
func TestAllInOrder(t *testing.T) {
	for _, size := range [][2]int{{0, 8}, {1, 8}, {2, 4}, {3, 3}, {4, 2}} {
		var want []string
		for w := range written(1<<size[0], size[1]) {
			if alike(w, normalByHand(w)) {
				want = append(want, words.Show(w))
			}
		}
		if got := told(size[0], size[1]); !slices.Equal(got, want) {
			t.Errorf("All(%d, %d): %d words, want %d", size[0], size[1], len(got), len(want))
		}
	}
}

// What holds: each infinite word is told once, and every small one is.
func TestAllTellsEachOnce(t *testing.T) {
	const props, size = 1, 7
	seen := map[string]int{}
	for w := range words.All(props, size) {
		if words.Check(w, props) != api.OK || words.Places(w) > size {
			t.Fatalf("%v", w)
		}
		seen[words.Show(w)]++
	}
	for w := range written(1<<props, size) {
		if n := seen[words.Show(words.Normal(w))]; n != 1 {
			t.Fatalf("%v is told %d times", w, n)
		}
	}
	list := slices.Collect(words.All(1, 5))
	for i, a := range list {
		for _, b := range list[:i] {
			if sameFar(a, b) {
				t.Fatalf("%v and %v are one", a, b)
			}
		}
	}
}

// How many there are of each number of names: loops that are no shorter row again and again, and stems that end otherwise.
func TestAllCounts(t *testing.T) {
	for props := 1; props <= api.MaxProps; props++ {
		k := 1 << props
		pairs := k*k - k
		list := slices.Collect(words.All(props, 2))
		if len(list) != k+2*pairs {
			t.Errorf("All(%d, 2): %d words", props, len(list))
		}
		greatest := uint16(k - 1)
		if !alike(list[k-1], api.Word{Loop: []uint16{greatest}}) || !alike(list[k+pairs-1], api.Word{Loop: []uint16{greatest, greatest - 1}}) || !alike(list[len(list)-1], api.Word{Stem: []uint16{greatest}, Loop: []uint16{greatest - 1}}) {
			t.Errorf("All(%d, 2): %v, %v, %v", props, list[k-1], list[k+pairs-1], list[len(list)-1])
		}
	}
}

func TestAllOfNothing(t *testing.T) {
	for _, props := range []int{-1, 9, 16, 64, math.MaxInt, math.MinInt} {
		for _, size := range []int{-1, 0, 1, 3, math.MaxInt, math.MinInt} {
			if got := told(props, size); len(got) != 0 {
				t.Errorf("All(%d, %d): %q", props, size, got)
			}
		}
	}
	for props := range api.MaxProps + 1 {
		for _, size := range []int{0, -1, -2, math.MinInt} {
			if got := told(props, size); len(got) != 0 {
				t.Errorf("All(%d, %d): %q", props, size, got)
			}
		}
	}
}

// However great the size: nothing is made ahead of its being asked for, and the one word without names is the last one.
func TestAllOfGreatSizes(t *testing.T) {
	for _, size := range []int{1, 2, 1 << 20, 1 << 31, 1 << 40, math.MaxInt - 1, math.MaxInt} {
		if got := told(0, size); !slices.Equal(got, []string{"(0)"}) {
			t.Errorf("All(0, %d): %.40q", size, got)
		}
		for props := 1; props <= api.MaxProps; props++ {
			n := 0
			for w := range words.All(props, size) {
				n++
				if words.Places(w) > size || n == 1000 {
					break
				}
			}
			if size > 1<<10 && n != 1000 {
				t.Errorf("All(%d, %d): %d words", props, size, n)
			}
		}
	}
}

// A body that has said it is done is not asked again.
func TestAllLeftEarly(t *testing.T) {
	all := words.All(1, 4)
	whole := told(1, 4)
	for stop := 1; stop <= len(whole); stop++ {
		n := 0
		all(func(w api.Word) bool {
			if words.Show(w) != whole[n] {
				t.Errorf("left at %d: %v", stop, w)
			}
			n++
			return n < stop
		})
		if n != stop {
			t.Errorf("asked %d times, want %d", n, stop)
		}
	}
	for w := range all {
		if len(w.Stem) == 1 {
			break
		}
	}
}

func TestAllAgainAndWithinItself(t *testing.T) {
	all := words.All(1, 2)
	for range all {
		break
	}
	var got strings.Builder
	for x := range all {
		for y := range all {
			got.WriteString(words.Show(x) + words.Show(y) + ";")
			if len(y.Loop) == 2 {
				break
			}
		}
	}
	var want strings.Builder
	for _, x := range []string{"(0)", "(1)", "(0 1)", "(1 0)", "0 (1)", "1 (0)"} {
		for _, y := range []string{"(0)", "(1)", "(0 1)"} {
			want.WriteString(x + y + ";")
		}
	}
	if got.String() != want.String() {
		t.Error(got.String())
	}
	if again := slices.Collect(all); len(again) != 6 {
		t.Errorf("again: %v", again)
	}
}

// R4: two know nothing of one another.
func TestTwoAlls(t *testing.T) {
	n := 0
	for x := range words.All(1, 2) {
		m := 0
		for y := range words.All(2, 1) {
			if !alike(y, api.Word{Loop: []uint16{uint16(m)}}) {
				t.Errorf("within %v: %v", x, y)
			}
			m++
		}
		n++
	}
	if n != 6 {
		t.Errorf("%d words", n)
	}
}

// R2: each word is its asker's own: what becomes of it changes none that comes, or came.
func TestAllIsNotSpoilt(t *testing.T) {
	all := words.All(1, 4)
	whole := told(1, 4)
	for range 2 {
		var got []string
		for w := range all {
			got = append(got, words.Show(w))
			spoil(w)
		}
		if !slices.Equal(got, whole) {
			t.Errorf("%q", got)
		}
	}
	var kept []string
	for _, w := range slices.Collect(all) {
		kept = append(kept, words.Show(w))
		spoil(w)
	}
	if !slices.Equal(kept, whole) {
		t.Errorf("kept: %q", kept)
	}
}
