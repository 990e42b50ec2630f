package lex_test

import (
	"slices"
	"strings"
	"testing"

	"augur/api"
	"augur/lex"
)

func wantName(t *testing.T, s string, bare bool, quote string) {
	t.Helper()
	if got := lex.IsName(s); got != bare {
		t.Errorf("IsName(%q) is %v", s, got)
	}
	if got := lex.Quote(s); got != quote {
		t.Errorf("Quote(%q) is %q, want %q", s, got, quote)
	}
}

func bare(t *testing.T, s string)   { t.Helper(); wantName(t, s, true, s) }
func quoted(t *testing.T, s string) { t.Helper(); wantName(t, s, false, `"`+s+`"`) }
func noName(t *testing.T, s string) { t.Helper(); wantName(t, s, false, "") }

func TestNameExamples(t *testing.T) {
	quoted(t, "ack 1")
	quoted(t, "X")
	bare(t, "a_1")
	noName(t, `a"b`)
	noName(t, "")
	quoted(t, "true")
}

func TestNames(t *testing.T) {
	for _, s := range []string{"a", "Z9", "_", "_1", "Xa", "true1", "XX", "Q", most, strings.Repeat("_", 32)} {
		bare(t, s)
	}
	for _, s := range append(slices.Clone(words), "1", "1a", " ", "a ", " a", "~", "->", "(", "a-b", "a.b", most[:31]+" ", strings.Repeat("9", 32)) {
		quoted(t, s)
	}
	for _, s := range []string{tooMany, strings.Repeat("a", 1000), strings.Repeat(" ", 33), "a\n", "\t", `\`, `a\b`, `"`, `"a"`, "é", "aé", "a\x00"} {
		noName(t, s)
	}
}

// Each byte alone, behind a letter, and ahead of one.
func TestNamesOfAnyByte(t *testing.T) {
	for b := range 256 {
		s := string([]byte{byte(b)})
		letter := b == '_' || b >= 'A' && b <= 'Z' || b >= 'a' && b <= 'z'
		for _, x := range []struct {
			text string
			bare bool
		}{
			{s, letter && !slices.Contains(words, s)},
			{"a" + s, letter || b >= '0' && b <= '9'},
			{s + "a", letter},
		} {
			switch {
			case x.bare:
				bare(t, x.text)
			case b >= 0x20 && b <= 0x7e && b != '"' && b != '\\':
				quoted(t, x.text)
			default:
				noName(t, x.text)
			}
		}
	}
}

// What holds: of each name Quote is one token, which is the name.
func TestQuoteIsOneToken(t *testing.T) {
	for s := range texts(4) {
		if q := lex.Quote(s); q != "" {
			wantTokens(t, q, name(s, 0), end(len(q)))
			wantTokens(t, "X"+" "+q+"(", word("X", 0), name(s, 2), sign("(", len(q)+2), end(len(q)+3))
		}
	}
	for n := range api.MaxName {
		s := strings.Repeat("b c", 11)[:n+1]
		wantTokens(t, lex.Quote(s), name(s, 0), end(len(lex.Quote(s))))
	}
}
