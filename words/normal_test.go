package words_test

import (
	"math"
	"slices"
	"testing"

	"augur/api"
	"augur/words"
)

// sameFar tells whether two have the same letters, as far as it takes: where both loop, what comes repeats by both lengths.
func sameFar(a, b api.Word) bool {
	n := max(len(a.Stem), len(b.Stem)) + len(a.Loop)*len(b.Loop)
	return slices.Equal(unrolled(a, n), unrolled(b, n))
}

// normalByHand is the normal form by what the chapter says of it: of all that can be cut out of the letters, the one with the fewest places.
func normalByHand(w api.Word) api.Word {
	letters := unrolled(w, len(w.Stem)+2*len(w.Loop))
	for places := 1; ; places++ {
		for stem := range places {
			short := api.Word{Stem: letters[:stem], Loop: letters[stem:places]}
			if sameFar(short, w) {
				return short
			}
		}
	}
}

// wantNormal wants the normal form, as the chapter says what that is.
func wantNormal(t *testing.T, w, got api.Word) {
	t.Helper()
	if len(got.Loop) == 0 || !sameFar(got, w) {
		t.Fatalf("%v is not %v", got, w)
	}
	for n := 1; n < len(got.Loop); n++ {
		if len(got.Loop)%n == 0 && slices.Equal(slices.Repeat(got.Loop[:n], len(got.Loop)/n), got.Loop) {
			t.Fatalf("Normal(%v) is %v: the loop is %d letters again and again", w, got, n)
		}
	}
	if s := len(got.Stem); s > 0 && got.Stem[s-1] == got.Loop[len(got.Loop)-1] {
		t.Fatalf("Normal(%v) is %v: the stem ends as the loop", w, got)
	}
}

func TestNormalOfAllSmall(t *testing.T) {
	for _, size := range [][2]int{{2, 9}, {3, 6}} {
		for w := range written(size[0], size[1]) {
			got := words.Normal(w)
			wantNormal(t, w, got)
			if want := normalByHand(w); !alike(got, want) {
				t.Fatalf("Normal(%v) is %v, want %v", w, got, want)
			}
			if again := words.Normal(got); !alike(again, got) {
				t.Fatalf("Normal(%v) is %v, and again %v", w, got, again)
			}
		}
	}
}

// Example 1, and others by hand.
func TestNormalExamples(t *testing.T) {
	for text, want := range map[string]string{
		"1 2 (3 2 3 2)": "1 (2 3)", "0 0 (0)": "(0)", "(0)": "(0)", "(5 5 5)": "(5)", "(1 2 1 2 1)": "(1 2 1 2 1)",
		"9 8 7 (1 9 8 7)": "(9 8 7 1)", "7 9 8 7 (9 8 7)": "(7 9 8)", "1 1 (2 1)": "1 (1 2)", "256 (0 256)": "(256 0)",
		"0 (256)": "0 (256)", "65535 (65535)": "(65535)", "0 (0 0 1 0 0 1)": "0 (0 0 1)", "1 (0 0 1 0 0 1)": "(1 0 0)",
	} {
		if got := words.Normal(of(text)); !alike(got, of(want)) {
			t.Errorf("Normal of %s is %v, want %s", text, got, want)
		}
	}
}

// Loops of every length that are each row again and again; and those that would be, but for one letter.
func TestLongLoops(t *testing.T) {
	for length := 1; length <= 64; length++ {
		row := make([]uint16, length)
		row[length/2] = 1
		for times := 1; length*times <= 420; times++ {
			loop := slices.Repeat(row, times)
			wantNormal(t, api.Word{Loop: loop}, words.Normal(api.Word{Loop: loop}))
			if got := words.Normal(api.Word{Stem: loop, Loop: loop}); !slices.Equal(got.Loop, row) || len(got.Stem) != 0 {
				t.Fatalf("%d letters %d times: %v", length, times, got)
			}
			if times == 1 {
				continue
			}
			for _, at := range []int{0, length*times - 1, length * (times - 1), length * times / 2} {
				other := slices.Clone(loop)
				other[at] ^= 2
				if got := words.Normal(api.Word{Stem: row, Loop: other}); len(got.Loop) != length*times {
					t.Fatalf("%d letters %d times, but at %d: a loop of %d", length, times, at, len(got.Loop))
				}
			}
		}
	}
}

// Stems of every length that go into the loop whole, or but for their first letter.
func TestLongStems(t *testing.T) {
	loop := []uint16{1, 2, 3, 4, 5}
	round := slices.Repeat(loop, 20)
	for n := range 40 {
		w := api.Word{Stem: round[len(round)-n:], Loop: loop}
		want := api.Word{Loop: unrolled(w, 5)}
		if got := words.Normal(w); !alike(got, want) {
			t.Errorf("Normal(%v) is %v", w, got)
		}
		if got := words.Normal(api.Word{Stem: slices.Concat([]uint16{9}, w.Stem), Loop: loop}); !alike(got, api.Word{Stem: []uint16{9}, Loop: want.Loop}) {
			t.Errorf("Normal of 9 and %v is %v", w, got)
		}
	}
}

// Great words take no more than a few rounds through their letters.
func TestGreatWords(t *testing.T) {
	const great = 1 << 21
	noughts := make([]uint16, great)
	last := slices.Clone(noughts)
	last[great-1] = 1
	pairs := slices.Repeat([]uint16{0, 1}, great/2)
	for _, c := range []struct{ w, want api.Word }{
		{api.Word{Stem: noughts, Loop: noughts}, of("(0)")},
		{api.Word{Stem: pairs, Loop: pairs}, of("(0 1)")},
		{api.Word{Stem: pairs, Loop: noughts}, api.Word{Stem: pairs, Loop: []uint16{0}}},
		{api.Word{Stem: last, Loop: last}, api.Word{Loop: last}},
		{api.Word{Loop: last[3:]}, api.Word{Loop: last[3:]}}, // its length is a number of few divisors
	} {
		if got := words.Normal(c.w); !alike(got, c.want) {
			t.Errorf("%d and %d letters: %d and %d", len(c.w.Stem), len(c.w.Loop), len(got.Stem), len(got.Loop))
		}
		if !words.Same(c.w, c.want) {
			t.Errorf("%d and %d letters: not the same", len(c.w.Stem), len(c.w.Loop))
		}
	}
}

// What holds: Same says so of just those whose letters are alike, and of just those whose normal forms are.
func TestSame(t *testing.T) {
	yes := 0
	for a := range written(2, 5) {
		for b := range written(2, 5) {
			got := words.Same(a, b)
			if got != sameFar(a, b) || got != alike(words.Normal(a), words.Normal(b)) {
				t.Fatalf("Same(%v, %v) is %v", a, b, got)
			}
			if got {
				yes++
			}
		}
	}
	if yes < 500 {
		t.Errorf("%d alone are the same", yes)
	}
	for _, c := range []struct {
		a, b string
		want bool
	}{{"(0 1)", "(1 0)", false}, {"0 (1)", "(1)", false}, {"1 (0 1)", "(1 0)", true}, {"(256)", "(0)", false}, {"(65535)", "65535 (65535 65535)", true}} {
		if words.Same(of(c.a), of(c.b)) != c.want || words.Same(of(c.b), of(c.a)) != c.want {
			t.Errorf("Same of %s and %s", c.a, c.b)
		}
	}
}

// What holds of Suffix and Join, and each against the letters themselves.
func TestSuffixAndJoin(t *testing.T) {
	for w := range written(2, 6) {
		normal := words.Normal(w)
		for n := range 10 {
			far := unrolled(w, n+20)
			suffix := words.Suffix(w, n)
			wantNormal(t, suffix, suffix)
			if !slices.Equal(unrolled(suffix, 20), far[n:]) {
				t.Fatalf("Suffix(%v, %d) is %v", w, n, suffix)
			}
			for i := range 20 {
				if words.At(suffix, i) != words.At(w, n+i) {
					t.Fatalf("Suffix(%v, %d) is %v at %d", w, n, suffix, i)
				}
			}
			if back := words.Join(words.Prefix(w, n), suffix); !alike(back, normal) {
				t.Fatalf("%v by %d: joined again %v", w, n, back)
			}
		}
	}
	for w := range written(2, 4) {
		for n := range 4 {
			for _, u := range rows(n, 3) {
				joined := words.Join(u, w)
				wantNormal(t, joined, joined)
				if !slices.Equal(unrolled(joined, 20), slices.Concat(u, unrolled(w, 20-n))) {
					t.Fatalf("Join(%v, %v) is %v", u, w, joined)
				}
				if back := words.Suffix(joined, n); !alike(back, words.Normal(w)) {
					t.Fatalf("Join(%v, %v), and off again: %v", u, w, back)
				}
			}
		}
	}
}

// Example 2, and the edges.
func TestSuffixAndJoinExamples(t *testing.T) {
	w := of("1 2 (3 4)")
	for n, want := range map[int]string{
		3: "(4 3)", 1: "2 (3 4)", 0: "1 2 (3 4)", 2: "(3 4)", -1: "1 2 (3 4)", math.MinInt: "1 2 (3 4)",
		65536: "(3 4)", 65537: "(4 3)", 5_000_000_001: "(4 3)", math.MaxInt: "(4 3)", math.MaxInt - 1: "(3 4)",
	} {
		if got := words.Suffix(w, n); !alike(got, of(want)) {
			t.Errorf("by %d: %v, want %s", n, got, want)
		}
	}
	if got := words.Suffix(of("1 2 (3 2 3 2)"), -7); !alike(got, of("1 (2 3)")) {
		t.Errorf("by none: %v", got)
	}
	for _, c := range []struct {
		u        []uint16
		w, joint string
	}{
		{[]uint16{4}, "(3 4)", "(4 3)"}, {[]uint16{5}, "(3 4)", "5 (3 4)"}, {nil, "(3 4)", "(3 4)"}, {nil, "4 (3 4 3 4)", "(4 3)"},
		{[]uint16{}, "1 (2)", "1 (2)"}, {[]uint16{3, 4, 3}, "4 (3 4)", "(3 4)"}, {[]uint16{65535, 256}, "(0)", "65535 256 (0)"},
	} {
		if got := words.Join(c.u, of(c.w)); !alike(got, of(c.joint)) {
			t.Errorf("Join(%v, %s) is %v, want %s", c.u, c.w, got, c.joint)
		}
	}
}

// Join(Prefix(w, n), Suffix(w, n)) is Normal(w), up to the greatest n that Prefix takes.
func TestFarSuffix(t *testing.T) {
	for _, w := range []api.Word{of("1 2 (3 4 5)"), of("(0 1)"), {Stem: make([]uint16, 65530), Loop: []uint16{1, 0}}, {Stem: make([]uint16, 70000), Loop: []uint16{1}}} {
		for _, n := range []int{1000, 65529, 65530, 65531, 65535, 65536} {
			if got := words.Join(words.Prefix(w, n), words.Suffix(w, n)); !alike(got, words.Normal(w)) {
				t.Errorf("by %d: a stem of %d, the loop %v", n, len(got.Stem), got.Loop)
			}
		}
	}
}
