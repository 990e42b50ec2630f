package lex_test

import (
	"slices"
	"strings"
	"testing"

	"augur/api"
	"augur/lex"
)

func TestAllLeftEarly(t *testing.T) {
	all := lex.All(`a & "b" $`)
	for want := range 4 {
		var got []api.Token
		for k := range all {
			if len(got) == want {
				break
			}
			got = append(got, k)
		}
		ahead := []api.Token{name("a", 0), sign("&", 2), name("b", 4)}
		if !slices.Equal(got, ahead[:want]) {
			t.Errorf("left at %d: %v", want, got)
		}
	}
	for k := range lex.All("a") {
		if k.Kind == api.TokenEnd {
			break
		}
	}
}

// A body that has said it is done is not asked again: not behind a token, not behind the end.
func TestAllStopsWhenTold(t *testing.T) {
	for stop := 1; stop <= 3; stop++ {
		n := 0
		lex.All("a b")(func(api.Token) bool {
			n++
			return n < stop
		})
		if n != stop {
			t.Errorf("asked %d times, want %d", n, stop)
		}
	}
}

func TestAllAgain(t *testing.T) {
	for _, text := range []string{"", "a -> X b", "a & $ b", `"a`} {
		all := lex.All(text)
		first := slices.Collect(all)
		for range all {
			break
		}
		if again := slices.Collect(all); !slices.Equal(first, again) {
			t.Errorf("%q: %v, then %v", text, first, again)
		}
	}
}

func TestAllWithinItself(t *testing.T) {
	all := lex.All("a X !")
	var got strings.Builder
	for x := range all {
		for y := range all {
			for z := range all {
				got.WriteString(x.Text + y.Text + z.Text + " ")
				if z.Text == "X" {
					break
				}
			}
		}
	}
	want := "aaa aaX aXa aXX a!a a!X aa aX Xaa XaX XXa XXX X!a X!X Xa XX !aa !aX !Xa !XX !!a !!X !a !X aa aX Xa XX !a !X a X "
	if got.String() != want {
		t.Errorf("%s", got.String())
	}
}

// R4: two of one text know nothing of one another.
func TestTwoAtOnce(t *testing.T) {
	one, other := lex.All("a b"), lex.All("a b")
	var got []string
	for x := range one {
		for y := range other {
			got = append(got, x.Text+y.Text)
		}
	}
	if !slices.Equal(got, []string{"aa", "ab", "a", "ba", "bb", "b", "a", "b", ""}) {
		t.Errorf("%q", got)
	}
}

// The error is no token: Tokens has none of those ahead of it, All has them.
func TestBothCallsOnAnError(t *testing.T) {
	for text, want := range map[string]api.Errno{"a & $": api.ErrLexSign, `a & "`: api.ErrLexQuote, `a & ""`: api.ErrLexName} {
		wantError(t, text, want, 4, name("a", 0), sign("&", 2))
	}
}

// R2: a list is its asker's own, and the room behind it too.
func TestTokensIsNewMemory(t *testing.T) {
	text := "a & b"
	want := []api.Token{name("a", 0), sign("&", 2), name("b", 4), end(5)}
	one, _, _ := lex.Tokens(text)
	other, _, _ := lex.Tokens(text)
	all := lex.All(text)
	for i := range one {
		one[i] = api.Token{Kind: 9, Text: "changed", At: -1}
	}
	_ = append(one, name("more", 9))
	if !slices.Equal(other, want) {
		t.Errorf("another list changed: %v", other)
	}
	if later, _, _ := lex.Tokens(text); !slices.Equal(later, want) {
		t.Errorf("a later list changed: %v", later)
	}
	if got := slices.Collect(all); !slices.Equal(got, want) {
		t.Errorf("All changed: %v", got)
	}
}

// A text as long as a formula's may be, of each kind.
func TestLongTexts(t *testing.T) {
	for piece, perPiece := range map[string]int{"a ": 1, "!": 1, "<->": 1, `"a b" `: 1, "->X": 2, "   ": 0} {
		n := api.MaxText / len(piece)
		list, err, _ := lex.Tokens(strings.Repeat(piece, n))
		if err != api.OK || len(list) != n*perPiece+1 || list[len(list)-1] != end(n*len(piece)) {
			t.Errorf("%q: %d tokens, %v", piece, len(list), err)
		}
	}
	wantError(t, `"`+strings.Repeat("a", api.MaxText), api.ErrLexQuote, 0)
}
