package past_test

import (
	"slices"
	"testing"

	"augur/api"
	"augur/past"
	"augur/tree"
)

func TestExamples(t *testing.T) {
	for _, c := range []struct {
		text string
		u    []uint16
		want bool
	}{
		{"Y p", []uint16{1, 0}, true}, {"Y p", []uint16{1}, false}, {"Z p", []uint16{0}, true}, {"Z p", []uint16{0, 1}, false}, {"Z p", []uint16{1, 0}, true},
		{"p S q", []uint16{2, 1, 1}, true}, {"p S q", []uint16{1, 1}, false}, {"p S q", []uint16{2, 0}, false}, {"p S q", []uint16{2}, true}, {"p S q", []uint16{2, 0, 1}, false},
		{"p T q", []uint16{2, 2}, true}, {"p T q", []uint16{2, 3, 0}, false}, {"p T q", []uint16{0, 3, 2}, true}, {"p T q", []uint16{0, 1, 2}, false}, {"p T q", []uint16{0, 2, 2}, false},
		{"O p", []uint16{0, 1, 0}, true}, {"O p", []uint16{0, 0}, false}, {"H p", []uint16{1, 3}, true}, {"H p", []uint16{0, 1}, false},
		{"Y true", []uint16{0}, false}, {"Y true", []uint16{0, 0}, true}, {"Z false", []uint16{0}, true}, {"Z false", []uint16{0, 0}, false}, {"O false", []uint16{3}, false}, {"H true", []uint16{0}, true},
	} {
		if got, err := past.Holds(read(c.text), pq(), c.u...); err != api.OK || got != c.want {
			t.Errorf("%s by %v: %v, %v", c.text, c.u, got, err)
		}
	}
}

// The letters may be handed in one by one.
func TestLettersOneByOne(t *testing.T) {
	f := read("p S q")
	if is, err := past.Holds(f, pq(), 2, 1, 1); !is || err != api.OK {
		t.Error(is, err)
	}
	if is, err := past.Holds(f, pq(), 1, 1); is || err != api.OK {
		t.Error(is, err)
	}
	if is, err := past.Holds(f, pq()); is || err != api.ErrArg {
		t.Error(is, err)
	}
}

// What a formula of the past means: each operator over each other one, by all short rows.
func TestMeaning(t *testing.T) {
	for _, f := range small() {
		w := watch(t, f, pq())
		for u := range rows(2, 4) {
			want := byLetters(f, pq(), u)
			w.Reset()
			wantSteps(t, w, f, u, want)
			if len(u) == 4 && u[0] == 2 || len(u) == 1 {
				wantHolds(t, f, pq(), u, want)
			}
		}
	}
}

// Deeper formulas, longer rows; Holds and a watch tell the same at each step.
func TestLongRows(t *testing.T) {
	d := draw(8)
	for _, f := range someFormulas(1500, 7) {
		u := d.letters(1+d.below(25), 2)
		want := byLetters(f, pq(), u)
		wantHolds(t, f, pq(), u, want)
		wantSteps(t, watch(t, f, pq()), f, u, want)
	}
}

// put is a text's formula, in which g and h are those (of other names).
func put(t *testing.T, text string, g, h api.Formula) api.Formula {
	t.Helper()
	f, err := tree.Put(read(text), "g", g)
	if err != api.OK {
		t.Fatal(text, err)
	}
	if f, err = tree.Put(f, "h", h); err != api.OK {
		t.Fatal(text, err)
	}
	return f
}

// What holds of all g and h, at all places.
func TestLaws(t *testing.T) {
	laws := [][2]string{
		{"O g", "true S g"}, {"H g", "false T g"}, {"!(g S h)", "!g T !h"}, {"!(g T h)", "!g S !h"}, {"Z g", "!Y !g"}, {"Y g", "!Z !g"}, {"!O g", "H !g"}, {"!H g", "O !g"},
		{"g S h", "h | g & Y (g S h)"}, {"g T h", "h & (g | Z (g T h))"}, {"O g", "g | Y O g"}, {"H g", "g & Z H g"}, {"Y g", "Z g & Y true"}, {"Z g", "Y g | !Y true"},
		{"!(g & h)", "!g | !h"}, {"!(g | h)", "!g & !h"}, {"g -> h", "!g | h"}, {"g <-> h", "(g -> h) & (h -> g)"}, {"!!g", "g"}, {"O O g", "O g"}, {"H H g", "H g"}, {"Y (g & h)", "Y g & Y h"}, {"Z (g | h)", "Z g | Z h"},
	}
	list := append(someFormulas(60, 4), read("p"), read("q"), read("true"), read("false"))
	d := draw(3)
	for i, g := range list {
		for _, h := range []api.Formula{list[(i+1)%len(list)], list[(i+7)%len(list)], list[len(list)-1-i%4]} {
			for _, law := range laws {
				u := d.letters(12, 2)
				left, right := watch(t, put(t, law[0], g, h), pq()), watch(t, put(t, law[1], g, h), pq())
				for k, letter := range u {
					a, _ := left.Step(letter)
					b, _ := right.Step(letter)
					if a != b {
						t.Fatalf("%s by %v, step %d: %v; %s: %v; g %s, h %s", law[0], u, k, a, law[1], b, told(g), told(h))
					}
				}
			}
		}
	}
}

// S holds at i just if h does, or g does, and it held at i - 1.
func TestSinceStepByStep(t *testing.T) {
	for i, g := range someFormulas(40, 4) {
		h := someFormulas(41, 4)[i]
		since, first, second := watch(t, op(api.OpSince, g, h), pq()), watch(t, g, pq()), watch(t, h, pq())
		d := draw(i)
		held := false
		for k, letter := range d.letters(40, 2) {
			a, _ := since.Step(letter)
			b, _ := first.Step(letter)
			c, _ := second.Step(letter)
			if a != (c || b && held) {
				t.Fatalf("(%s) S (%s), step %d: %v", told(g), told(h), k, a)
			}
			held = a
		}
	}
}

// Names that a formula lacks tell nothing of it, and in which order names stand hangs on the letters alone.
func TestOtherLists(t *testing.T) {
	d := draw(4)
	for _, f := range someFormulas(200, 5) {
		u := d.letters(10, 2)
		var moved []uint16
		for i, letter := range u {
			moved = append(moved, letter&1<<7|letter>>1|uint16(i%2)<<3)
		}
		wantHolds(t, f, []string{"q", "a", "b", "c", "d", "e", "f", "p"}, moved, byLetters(f, pq(), u))
	}
}

// All 8 names, each by its own bit.
func TestEachBit(t *testing.T) {
	names := []string{"a", "b", "c", "d", "e", "f", "g", "h"}
	for i, name := range names {
		for letter := range uint16(256) {
			want := letter>>i&1 == 1
			if is, err := past.Holds(prop(name), names, letter); err != api.OK || is != want {
				t.Fatalf("%s by %d: %v, %v", name, letter, is, err)
			}
			if is, err := past.Holds(op(api.OpYest, prop(name)), names, letter, ^letter&255); err != api.OK || is != want {
				t.Fatalf("Y %s by %d: %v, %v", name, letter, is, err)
			}
		}
	}
}

// The greatest and the deepest formulas.
func TestGreatFormulas(t *testing.T) {
	p := prop("p")
	u := make([]uint16, 200)
	u[20] = 1
	for _, c := range []struct {
		f    api.Formula
		want func(i int) bool
	}{
		{row(99, api.OpYest, p), func(i int) bool { return i == 119 }},
		{row(99, api.OpWeakYest, p), func(i int) bool { return i < 99 || i == 119 }},
		{row(99, api.OpOnce, p), func(i int) bool { return i >= 20 }},
		{row(99, api.OpHist, p), func(i int) bool { return false }},
		{row(99, api.OpNot, p), func(i int) bool { return i != 20 }},
		{op(api.OpYest, spread(api.OpAnd, 500, p)), func(i int) bool { return i == 21 }},
		{spread(api.OpOr, 250, row(2, api.OpYest, p)), func(i int) bool { return i == 22 }},
		{spread(api.OpSince, 500, p), func(i int) bool { return i == 20 }},
	} {
		w := watch(t, c.f, []string{"p"})
		for i, letter := range u {
			if got, err := w.Step(letter); err != api.OK || got != c.want(i) {
				t.Fatalf("%.60s at %d: %v, %v", told(c.f), i, got, err)
			}
			if got, err := past.Holds(c.f, []string{"p"}, u[:i+1]...); err != api.OK || got != c.want(i) {
				t.Fatalf("%.60s by %d: %v, %v", told(c.f), i+1, got, err)
			}
		}
	}
}

// A long row is gone through once.
func TestVeryLongRow(t *testing.T) {
	u := make([]uint16, 300000)
	u[7] = 2
	for text, want := range map[string]bool{"O q": true, "H !q": false, "!q S q": true, "q T !p": true, "Y Y q": false, "p S q": false} {
		if is, err := past.Holds(read(text), pq(), u...); err != api.OK || is != want {
			t.Errorf("%s: %v, %v", text, is, err)
		}
	}
	u = slices.Repeat([]uint16{1}, 300000)
	if is, err := past.Holds(read("H p & Y O p"), pq(), u...); err != api.OK || !is {
		t.Error(is, err)
	}
}
