package eval_test

import (
	"slices"
	"testing"

	"augur/api"
	"augur/eval"
	"augur/tree"
	"augur/words"
)

// put is a text's formula, in which g and h are those.
func put(t *testing.T, text string, g, h api.Formula) api.Formula {
	t.Helper()
	f, err := tree.Put(read(text), "g", g)
	if err != api.OK {
		t.Fatal(text, err)
	}
	if f, err = tree.Put(f, "h", h); err != api.OK {
		t.Fatal(text, err)
	}
	return f
}

// T6: what holds of all g and h, at all places.
func TestLaws(t *testing.T) {
	laws := [][2]string{
		{"F g", "true U g"}, {"G g", "false R g"}, {"g W h", "h R (g | h)"}, {"g M h", "h U (g & h)"},
		{"!(g U h)", "!g R !h"}, {"!(g R h)", "!g U !h"}, {"!F g", "G !g"}, {"!G g", "F !g"}, {"!(g W h)", "!g M !h"}, {"!(g M h)", "!g W !h"}, {"!X g", "X !g"}, {"!!g", "g"},
		{"!(g & h)", "!g | !h"}, {"!(g | h)", "!g & !h"}, {"!(g -> h)", "g & !h"}, {"!(g <-> h)", "g <-> !h"}, {"g -> h", "!g | h"}, {"g <-> h", "(g -> h) & (h -> g)"},
		{"X (g U h)", "X g U X h"}, {"X (g R h)", "X g R X h"}, {"X (g W h)", "X g W X h"}, {"X (g M h)", "X g M X h"}, {"X F g", "F X g"}, {"X G g", "G X g"},
		{"X (g & h)", "X g & X h"}, {"X (g | h)", "X g | X h"}, {"X (g -> h)", "X g -> X h"}, {"X (g <-> h)", "X g <-> X h"}, {"X true", "true"}, {"X false", "false"},
		{"g U h", "h | g & X (g U h)"}, {"g R h", "h & (g | X (g R h))"}, {"g W h", "h | g & X (g W h)"}, {"g M h", "h & (g | X (g M h))"}, {"F g", "g | X F g"}, {"G g", "g & X G g"},
		{"g W h", "G g | g U h"}, {"g M h", "(g R h) & F g"}, {"g U h", "(g W h) & F h"}, {"g R h", "G h | g M h"}, {"F F g", "F g"}, {"G G g", "G g"}, {"F G F g", "G F g"}, {"G F G g", "F G g"},
	}
	list := append(someFormulas(40, 4), read("p"), read("q"), read("true"), read("false"))
	ways := append(someWords(8), slices.Collect(words.All(2, 2))...)
	for i, g := range list {
		for _, h := range []api.Formula{list[(i+1)%len(list)], list[(i+7)%len(list)], list[len(list)-1-i%4]} {
			for _, law := range laws {
				left, right := put(t, law[0], g, h), put(t, law[1], g, h)
				for _, w := range ways {
					if a, b := along(t, left, pq(), w), along(t, right, pq(), w); !slices.Equal(a, b) {
						t.Fatalf("%s of %v: %s; %s: %s; g %s, h %s", law[0], w, yn(a), law[1], yn(b), show(g), show(h))
					}
				}
			}
		}
	}
}

// Expansion, place by place: by what holds at the place behind.
func TestExpansion(t *testing.T) {
	for _, w := range someWords(60) {
		known := table(t, pq(), w)
		row := func(f api.Formula) []bool {
			row, _ := known.Row(f)
			return row
		}
		for _, g := range someFormulas(12, 3) {
			for _, h := range someFormulas(13, 3) {
				until, release := row(op(api.OpUntil, g, h)), row(op(api.OpRelease, g, h))
				weak, strong := row(op(api.OpWeak, g, h)), row(op(api.OpStrong, g, h))
				gs, hs := row(g), row(h)
				for i := range gs {
					next := words.Behind(w, i)
					if until[i] != (hs[i] || gs[i] && until[next]) || weak[i] != (hs[i] || gs[i] && weak[next]) {
						t.Fatalf("U, W at %d of %v: %s, %s", i, w, show(g), show(h))
					}
					if release[i] != (hs[i] && (gs[i] || release[next])) || strong[i] != (hs[i] && (gs[i] || strong[next])) {
						t.Fatalf("R, M at %d of %v: %s, %s", i, w, show(g), show(h))
					}
				}
			}
		}
	}
}

// otherWays are other ways to write a word.
func otherWays(w api.Word) []api.Word {
	return []api.Word{
		words.Normal(w), {Stem: slices.Concat(w.Stem, w.Loop), Loop: w.Loop}, {Stem: w.Stem, Loop: slices.Repeat(w.Loop, 3)},
		{Stem: slices.Concat(w.Stem, w.Loop[:1]), Loop: slices.Concat(w.Loop[1:], w.Loop[:1])}, {Stem: slices.Concat(w.Stem, w.Loop, w.Loop[:1]), Loop: slices.Repeat(slices.Concat(w.Loop[1:], w.Loop[:1]), 2)},
	}
}

// What holds of a word holds of each way to write it; what holds at a place, of the suffix from there on.
func TestOneWordInAllWays(t *testing.T) {
	list := append(someFormulas(60, 5), smallFormulas()...)
	for _, w := range append(someWords(30), slices.Collect(words.All(1, 2))...) {
		for _, f := range list {
			row := along(t, f, pq(), w)
			if is, err := eval.Holds(f, pq(), w); err != api.OK || is != row[0] {
				t.Fatalf("%s of %v: %v, %v, along %s", show(f), w, is, err, yn(row))
			}
			for _, other := range otherWays(w) {
				if !words.Same(w, other) {
					t.Fatalf("%v, %v", w, other)
				}
				if is, err := eval.Holds(f, pq(), other); err != api.OK || is != row[0] {
					t.Fatalf("%s of %v, written %v: %v, %v", show(f), w, other, is, err)
				}
				for i, holds := range along(t, f, pq(), other) {
					place := i
					for place >= len(row) {
						place -= len(w.Loop)
					}
					if holds != row[place] {
						t.Fatalf("%s at %d of %v, written %v: %v", show(f), i, w, other, holds)
					}
				}
			}
			for i := range row {
				if is, err := eval.Holds(f, pq(), words.Suffix(w, i)); err != api.OK || is != row[i] {
					t.Fatalf("%s of %v without %d: %v, %v, along %s", show(f), w, i, is, err, yn(row))
				}
			}
		}
	}
}

// Names that a formula lacks tell nothing of it; and in which order names stand hangs on the letters alone.
func TestOtherLists(t *testing.T) {
	for _, w := range someWords(20) {
		other := api.Word{}
		// p, q: by bits 2, 0 of r, s, t's list; what else there is says anything.
		moved := func(letters []uint16) []uint16 {
			var list []uint16
			for i, letter := range letters {
				list = append(list, letter&1<<2|letter>>1|uint16(i%2)<<1)
			}
			return list
		}
		other.Stem, other.Loop = moved(w.Stem), moved(w.Loop)
		for _, f := range someFormulas(100, 5) {
			wantAll(t, f, []string{"q", "r", "p"}, other, yn(along(t, f, pq(), w)))
		}
	}
}
