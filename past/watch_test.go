package past_test

import (
	"testing"

	"augur/api"
	"augur/past"
	"augur/tree"
)

// Step by step: what a watch tells is Holds of all letters that it took; behind Reset it is a new one.
func TestReset(t *testing.T) {
	d := draw(12)
	for _, f := range append(someFormulas(300, 6), small()...) {
		w := watch(t, f, pq())
		for range 4 {
			u := d.letters(d.below(7), 2)
			wantSteps(t, w, f, u, byLetters(f, pq(), u))
			w.Reset()
			if d.below(3) == 0 {
				w.Reset()
			}
		}
		u := []uint16{1, 2, 0, 3}
		wantSteps(t, w, f, u, byLetters(f, pq(), u))
		wantSteps(t, watch(t, f, pq()), f, u, byLetters(f, pq(), u))
	}
}

func TestWatchExample(t *testing.T) {
	w := watch(t, read("Y p"), pq())
	for _, c := range []struct {
		letter uint16
		is     bool
		err    api.Errno
	}{{1, false, api.OK}, {4, false, api.ErrPastLetter}, {0, true, api.OK}, {4, false, api.ErrPastLetter}, {0, false, api.OK}} {
		if is, err := w.Step(c.letter); is != c.is || err != c.err {
			t.Errorf("%d: %v, %v", c.letter, is, err)
		}
	}
}

// A letter that is none is not taken, whatever the formula, and tells nothing.
func TestRefusedLetters(t *testing.T) {
	d := draw(9)
	for _, f := range append(someFormulas(300, 6), small()...) {
		w := watch(t, f, pq())
		u := d.letters(6, 2)
		for i, want := range byLetters(f, pq(), u) {
			for range d.below(3) {
				wrong := uint16(4 + d.below(65532))
				if is, err := w.Step(wrong); is || err != api.ErrPastLetter {
					t.Fatalf("%s by %d: %v, %v", told(f), wrong, is, err)
				}
			}
			wantSteps(t, w, f, u[i:i+1], []bool{want})
		}
	}
}

// A letter is below 2 to the number of names, of all numbers of names.
func TestLettersThatAreNone(t *testing.T) {
	names := []string{"a", "b", "c", "d", "e", "f", "g", "h"}
	yes := op(api.OpTrue)
	for n := range len(names) + 1 {
		w := watch(t, yes, names[:n])
		for letter := range 65536 {
			is, err := w.Step(uint16(letter))
			if good := letter < 1<<n; is != good || (err == api.OK) != good || !good && err != api.ErrPastLetter {
				t.Fatalf("%d names, %d: %v, %v", n, letter, is, err)
			}
		}
		most := uint16(1)<<n - 1
		if is, err := past.Holds(yes, names[:n], most, most); !is || err != api.OK {
			t.Errorf("%d names: %v, %v", n, is, err)
		}
		for _, u := range [][]uint16{{most + 1}, {most, most + 1}, {most + 1, most}, {0, 65535, 0}} {
			if is, err := past.Holds(yes, names[:n], u...); is || err != api.ErrPastLetter {
				t.Errorf("%d names, %v: %v, %v", n, u, is, err)
			}
		}
	}
}

func TestBits(t *testing.T) {
	for text, want := range map[string]int{
		"p": 0, "true": 0, "!(p & q) -> (p <-> q)": 0, "Y p": 1, "Z p": 1, "O p": 1, "H p": 1, "p S q": 1, "p T q": 1,
		"O p & H !q": 2, "Y Y p": 2, "(O p) | (O p)": 1, "p S (p S q)": 2, "O p & O q": 2, "O p | !O p | Y O p": 2, "(p S q) & (q S p)": 2, "Y p & Z p": 2, "(Y p S Y p) T (Y p S Y p)": 3,
	} {
		if got := watch(t, read(text), pq()).Bits(); got != want {
			t.Errorf("%s: %d, want %d", text, got, want)
		}
	}
	if got := watch(t, row(99, api.OpOnce, prop("p")), pq()).Bits(); got != 99 {
		t.Errorf("99 O: %d", got)
	}
	if got := watch(t, spread(api.OpAnd, 250, row(2, api.OpYest, prop("p"))), pq()).Bits(); got != 2 {
		t.Errorf("two Y at 250 places: %d", got)
	}
}

// Bits hang on the formula alone: how many of tree.Subs are of the past, whatever was taken.
func TestBitsOfSubs(t *testing.T) {
	d := draw(21)
	for _, f := range append(someFormulas(1000, 7), small()...) {
		want := 0
		for _, part := range tree.Subs(f) {
			if part.Op >= api.OpYest && part.Op <= api.OpTrig {
				want++
			}
		}
		w := watch(t, f, []string{"q", "r", "p"})
		for range 3 {
			if got := w.Bits(); got != want {
				t.Fatalf("%s: %d, want %d", told(f), got, want)
			}
			w.Step(uint16(d.below(10))) // perhaps none
		}
		w.Reset()
		if got := w.Bits(); got != want {
			t.Fatalf("%s behind Reset: %d, want %d", told(f), got, want)
		}
	}
}

// R4: watches of one formula, and of others, know nothing of one another.
func TestTwoWatches(t *testing.T) {
	d := draw(2)
	list := someFormulas(50, 6)
	for i, f := range list {
		g := list[(i+1)%len(list)]
		one, twin, other := watch(t, f, pq()), watch(t, f, pq()), watch(t, g, pq())
		u, v := d.letters(15, 2), d.letters(15, 2)
		byU, byV, ofOther := byLetters(f, pq(), u), byLetters(f, pq(), v), byLetters(g, pq(), v)
		for k := range u {
			wantSteps(t, one, f, u[k:k+1], byU[k:])
			wantSteps(t, twin, f, v[k:k+1], byV[k:])
			wantSteps(t, other, g, v[k:k+1], ofOther[k:])
		}
		twin.Reset()
		whole := append(u, 1, 2)
		wantSteps(t, one, f, whole[15:], byLetters(f, pq(), whole)[15:])
	}
}

// Each object is one's own: many hands may each have one.
func TestManyHands(t *testing.T) {
	list := someFormulas(60, 6)
	d := draw(6)
	u := d.letters(20, 2)
	all := func() string {
		said := ""
		for _, f := range list {
			w, _ := past.New(f, pq())
			for i, letter := range u {
				a, _ := w.Step(letter)
				b, _ := past.Holds(f, pq(), u[:i+1]...)
				said += map[bool]string{true: "y", false: "n"}[a] + map[bool]string{true: "y", false: "n"}[b]
			}
		}
		return said
	}
	first := all()
	done := make(chan string)
	for range 8 {
		go func() { done <- all() }()
	}
	for range 8 {
		if <-done != first {
			t.Error("another answer")
		}
	}
}
