package words_test

import (
	"slices"
	"testing"

	"augur/api"
	"augur/words"
)

const mark = 4242

// spoil changes all of a word, and the room behind its lists.
func spoil(w api.Word) {
	for _, list := range [][]uint16{w.Stem, w.Loop} {
		whole := list[:cap(list)]
		for i := range whole {
			whole[i] = mark
		}
	}
}

// roomy is a list with room behind it, which has marks.
func roomy(list []uint16) []uint16 {
	with := slices.Repeat([]uint16{mark}, len(list)+8)
	copy(with, list)
	return with[:len(list)]
}

// untouched tells whether a roomy list is as it was, with its room.
func untouched(list, was []uint16) bool {
	room := list[len(list):cap(list)]
	return slices.Equal(list, was) && !slices.ContainsFunc(room, func(letter uint16) bool { return letter != mark })
}

// R2: what is handed in stays as it is, with the room behind it; and what comes out is not a part of it.
func TestLentAndOwn(t *testing.T) {
	u := []uint16{1, 0}
	for w := range written(2, 5) {
		calls := map[string]func(u []uint16, w api.Word) api.Word{
			"Normal":   func(_ []uint16, w api.Word) api.Word { return words.Normal(w) },
			"Suffix 0": func(_ []uint16, w api.Word) api.Word { return words.Suffix(w, 0) },
			"Suffix 1": func(_ []uint16, w api.Word) api.Word { return words.Suffix(w, 1) },
			"Suffix 4": func(_ []uint16, w api.Word) api.Word { return words.Suffix(w, 4) },
			"Join":     words.Join,
			"Join of none": func(_ []uint16, w api.Word) api.Word {
				return words.Join(nil, w)
			},
			"Prefix": func(_ []uint16, w api.Word) api.Word {
				return api.Word{Stem: words.Prefix(w, len(w.Stem)), Loop: words.Prefix(w, 9)}
			},
			"those that only look": func(_ []uint16, w api.Word) api.Word {
				words.Check(w, 1)
				words.Places(w)
				words.Behind(w, 1)
				words.At(w, 1)
				words.Same(w, w)
				words.Show(w)
				return api.Word{}
			},
		}
		for name, call := range calls {
			lentRow, lent := roomy(u), api.Word{Stem: roomy(w.Stem), Loop: roomy(w.Loop)}
			first := call(lentRow, lent)
			was := api.Word{Stem: slices.Clone(first.Stem), Loop: slices.Clone(first.Loop)}
			second := call(lentRow, lent)
			spoil(first)
			if !untouched(lentRow, u) || !untouched(lent.Stem, w.Stem) || !untouched(lent.Loop, w.Loop) {
				t.Fatalf("%s of %v changes what is lent", name, w)
			}
			if !alike(second, was) {
				t.Fatalf("%s of %v changes what came out of another", name, w)
			}
			spoil(lent)
			spoil(api.Word{Stem: lentRow})
			if !alike(second, was) {
				t.Fatalf("%s of %v gives out what was lent", name, w)
			}
		}
	}
}

// R2: stem and loop of one answer share nothing, nor the room behind them.
func TestStemAndLoopApart(t *testing.T) {
	for w := range written(2, 5) {
		read, _, _ := words.Read(words.Show(w))
		for _, got := range []api.Word{words.Normal(w), words.Suffix(w, 1), words.Join([]uint16{1}, w), read} {
			loop := slices.Clone(got.Loop)
			spoil(api.Word{Stem: got.Stem})
			if !slices.Equal(got.Loop, loop) {
				t.Fatalf("of %v: the loop hangs on the stem", w)
			}
		}
	}
	for w := range words.All(1, 4) {
		loop := slices.Clone(w.Loop)
		spoil(api.Word{Stem: w.Stem})
		if !slices.Equal(w.Loop, loop) {
			t.Fatalf("All: the loop hangs on the stem: %v", w)
		}
		stem := slices.Clone(w.Stem)
		spoil(api.Word{Loop: w.Loop})
		if !slices.Equal(w.Stem, stem) {
			t.Fatalf("All: the stem hangs on the loop: %v", w)
		}
	}
}

// R6: a list that is nil and one that is empty are the same.
func TestNilAndEmpty(t *testing.T) {
	a, b := api.Word{Loop: []uint16{1, 2}}, api.Word{Stem: []uint16{}, Loop: []uint16{1, 2}}
	if !words.Same(a, b) || !alike(words.Normal(a), words.Normal(b)) || words.Show(a) != words.Show(b) || words.Check(b, 2) != api.OK {
		t.Error("an empty stem")
	}
	if !alike(words.Join(nil, a), words.Join([]uint16{}, b)) || !alike(words.Suffix(a, 1), words.Suffix(b, 1)) {
		t.Error("no letters ahead")
	}
}
