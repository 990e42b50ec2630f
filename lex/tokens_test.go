package lex_test

import (
	"iter"
	"slices"
	"strings"
	"testing"

	"augur/api"
	"augur/lex"
)

// The calls as the chapter lists them.
var (
	_ func(string) iter.Seq[api.Token]           = lex.All
	_ func(string) ([]api.Token, api.Errno, int) = lex.Tokens
	_ func(string) bool                          = lex.IsName
	_ func(string) string                        = lex.Quote
)

var (
	words = []string{"true", "false", "X", "F", "G", "U", "R", "W", "M", "Y", "Z", "O", "H", "S", "T"}
	signs = []string{"!", "&", "|", "(", ")", "->", "<->"}
)

const (
	most    = "abcdefghijklmnopqrstuvwxyz_01234" // 32 bytes
	tooMany = most + "5"
)

func name(text string, at int) api.Token { return api.Token{Kind: api.TokenName, Text: text, At: at} }
func word(text string, at int) api.Token { return api.Token{Kind: api.TokenWord, Text: text, At: at} }
func sign(text string, at int) api.Token { return api.Token{Kind: api.TokenSign, Text: text, At: at} }
func end(at int) api.Token               { return api.Token{Kind: api.TokenEnd, At: at} }

// wantTokens asks both calls.
func wantTokens(t *testing.T, text string, want ...api.Token) {
	t.Helper()
	if got, err, at := lex.Tokens(text); err != api.OK || at != 0 || !slices.Equal(got, want) {
		t.Errorf("Tokens(%q): %v, %v, %d, want %v", text, got, err, at, want)
	}
	if got := slices.Collect(lex.All(text)); !slices.Equal(got, want) {
		t.Errorf("All(%q): %v, want %v", text, got, want)
	}
}

// wantError asks both calls; ahead are the tokens ahead of the error.
func wantError(t *testing.T, text string, want api.Errno, place int, ahead ...api.Token) {
	t.Helper()
	if got, err, at := lex.Tokens(text); len(got) != 0 || err != want || at != place {
		t.Errorf("Tokens(%q): %v, %v, %d, want %v at %d", text, got, err, at, want, place)
	}
	if got := slices.Collect(lex.All(text)); !slices.Equal(got, ahead) {
		t.Errorf("All(%q): %v, want %v", text, got, ahead)
	}
}

func TestExamples(t *testing.T) {
	wantTokens(t, `G(req->F "ack 1")`, word("G", 0), sign("(", 1), name("req", 2), sign("->", 5), word("F", 7), name("ack 1", 9), sign(")", 16), end(17))
	wantTokens(t, `Xa true1 "X"`, name("Xa", 0), name("true1", 3), name("X", 9), end(12))
	wantTokens(t, `XX`, name("XX", 0), end(2))
	wantTokens(t, `X X`, word("X", 0), word("X", 2), end(3))
	wantError(t, `a - > b`, api.ErrLexSign, 2, name("a", 0))
	wantError(t, `a <- b`, api.ErrLexSign, 2, name("a", 0))
	wantError(t, `1a`, api.ErrLexSign, 0)
	wantError(t, `"a`, api.ErrLexQuote, 0)
	wantError(t, `""`, api.ErrLexName, 0)
	wantError(t, `a é`, api.ErrLexSign, 2, name("a", 0))
	wantError(t, `"é"`, api.ErrLexQuote, 0)
}

func TestErrorNumbers(t *testing.T) {
	if api.ErrLexSign != 20 || api.ErrLexQuote != 21 || api.ErrLexName != 22 {
		t.Errorf("%d, %d, %d", api.ErrLexSign, api.ErrLexQuote, api.ErrLexName)
	}
}

func TestNothingAndBlanks(t *testing.T) {
	wantTokens(t, "", end(0))
	for _, b := range []string{" ", "\t", "\n", "\r"} {
		wantTokens(t, b, end(1))
		wantTokens(t, b+b+b, end(3))
		wantTokens(t, b+"a"+b+b+"b"+b, name("a", 1), name("b", 4), end(6))
	}
	wantTokens(t, " \t\n\r", end(4))
	wantTokens(t, "\r\n\t a \t\n\r", name("a", 4), end(9))
}

// What other programs take for a blank is none here.
func TestNoOtherBlanks(t *testing.T) {
	for _, b := range []string{"\x0b", "\x0c", "\x00", "\x1f", "\x7f", "\x85", "\xa0", "\u00a0", "\u2028", "\ufeff"} {
		wantError(t, b, api.ErrLexSign, 0)
		wantError(t, "a"+b+"b", api.ErrLexSign, 1, name("a", 0))
	}
}

func TestWords(t *testing.T) {
	for _, w := range words {
		wantTokens(t, w, word(w, 0), end(len(w)))
		wantTokens(t, "("+w+")", sign("(", 0), word(w, 1), sign(")", len(w)+1), end(len(w)+2))
		wantTokens(t, w+" "+w, word(w, 0), word(w, len(w)+1), end(2*len(w)+1))
		for _, behind := range []string{"a", "Z", "0", "9", "_", w} {
			wantTokens(t, w+behind, name(w+behind, 0), end(len(w)+len(behind)))
		}
		wantTokens(t, "_"+w, name("_"+w, 0), end(len(w)+1))
		wantTokens(t, `"`+w+`"`, name(w, 0), end(len(w)+2))
	}
	for _, s := range []string{"True", "TRUE", "False", "x", "f", "g", "u", "tru", "fals", "A", "B", "C", "D", "E", "I", "J", "K", "L", "N", "P", "Q", "V"} {
		wantTokens(t, s, name(s, 0), end(len(s)))
	}
}

func TestBareNames(t *testing.T) {
	for _, s := range []string{"a", "z", "A", "Q", "_", "__", "_0", "a0", "a9", "aZ_z09", "Aa", most} {
		wantTokens(t, s, name(s, 0), end(len(s)))
	}
	wantTokens(t, "a(b)c", name("a", 0), sign("(", 1), name("b", 2), sign(")", 3), name("c", 4), end(5))
	wantTokens(t, `a"b"c`, name("a", 0), name("b", 1), name("c", 4), end(5))
	wantTokens(t, "a"+"\n"+"b", name("a", 0), name("b", 2), end(3))
	wantError(t, "0", api.ErrLexSign, 0)
	wantError(t, "9a", api.ErrLexSign, 0)
	wantError(t, "a 0b", api.ErrLexSign, 2, name("a", 0))
}

func TestQuotedNames(t *testing.T) {
	for _, s := range []string{"a", " ", "~", " a ", "ack 1", "1", "->", "<", "(a)", "true", "a'b", "$%&@#[]{}^`", most, strings.Repeat(" ", 32)} {
		wantTokens(t, `"`+s+`"`, name(s, 0), end(len(s)+2))
		wantTokens(t, ` "`+s+`"x`, name(s, 1), name("x", len(s)+3), end(len(s)+4))
	}
	wantTokens(t, `"a""b"`, name("a", 0), name("b", 3), end(6))
	wantTokens(t, `"a" "b"`, name("a", 0), name("b", 4), end(7))
}

func TestNamesTooLongAndOfNone(t *testing.T) {
	if len(most) != api.MaxName || len(tooMany) != api.MaxName+1 {
		t.Fatal("most is not the longest name")
	}
	wantTokens(t, "a "+most+" b", name("a", 0), name(most, 2), name("b", 35), end(36))
	wantError(t, tooMany, api.ErrLexName, 0)
	wantError(t, "a "+tooMany+" b", api.ErrLexName, 2, name("a", 0))
	wantError(t, strings.Repeat("X", 33), api.ErrLexName, 0)
	wantError(t, strings.Repeat("a", 65536), api.ErrLexName, 0)
	wantTokens(t, `a "`+most+`" b`, name("a", 0), name(most, 2), name("b", 37), end(38))
	wantError(t, `"`+tooMany+`"`, api.ErrLexName, 0)
	wantError(t, `a "`+tooMany+`" b`, api.ErrLexName, 2, name("a", 0))
	wantError(t, `"`+strings.Repeat(" ", 33)+`"`, api.ErrLexName, 0)
	wantError(t, `a ""`, api.ErrLexName, 2, name("a", 0))
	wantError(t, `"" "`, api.ErrLexName, 0)
	wantError(t, `"""`, api.ErrLexName, 0)
}

// Each byte between two quotes, alone and within.
func TestBytesBetweenQuotes(t *testing.T) {
	for b := range 256 {
		s := string([]byte{byte(b)})
		if b == '"' {
			continue
		}
		if b >= 0x20 && b <= 0x7e && b != '\\' {
			wantTokens(t, `"`+s+`"`, name(s, 0), end(3))
			wantTokens(t, `"a`+s+`b"`, name("a"+s+"b", 0), end(5))
			continue
		}
		wantError(t, `"`+s+`"`, api.ErrLexQuote, 0)
		wantError(t, `c "a`+s+`b"`, api.ErrLexQuote, 2, name("c", 0))
		wantError(t, `"`+most+s+`"`, api.ErrLexQuote, 0)
	}
}

func TestQuotesThatAreNotClosed(t *testing.T) {
	wantError(t, `"`, api.ErrLexQuote, 0)
	wantError(t, `a "`, api.ErrLexQuote, 2, name("a", 0))
	wantError(t, `a "b" "c & d`, api.ErrLexQuote, 6, name("a", 0), name("b", 2))
	wantError(t, `"`+tooMany, api.ErrLexQuote, 0)
	wantError(t, "\"a\n", api.ErrLexQuote, 0)
	wantError(t, `"a\"`, api.ErrLexQuote, 0)
	wantError(t, `"a\"b"`, api.ErrLexQuote, 0)
	wantError(t, `\"a"`, api.ErrLexSign, 0)
}

// R1: the quote's error is named ahead of the name's.
func TestLongNameWithAWrongByte(t *testing.T) {
	for _, b := range []string{"\x1f", "\x7f", "\\", "\x80", "\n"} {
		wantError(t, `"`+tooMany+b+`"`, api.ErrLexQuote, 0)
		wantError(t, `"`+b+tooMany+`"`, api.ErrLexQuote, 0)
	}
}

func TestSigns(t *testing.T) {
	for _, s := range signs {
		n := len(s)
		wantTokens(t, s, sign(s, 0), end(n))
		wantTokens(t, s+s, sign(s, 0), sign(s, n), end(2*n))
		wantTokens(t, "a"+s+"b", name("a", 0), sign(s, 1), name("b", n+1), end(n+2))
		wantTokens(t, "X "+s+` "b"`, word("X", 0), sign(s, 2), name("b", n+3), end(n+6))
	}
	wantTokens(t, "!&|()-><->", sign("!", 0), sign("&", 1), sign("|", 2), sign("(", 3), sign(")", 4), sign("->", 5), sign("<->", 7), end(10))
	wantTokens(t, "-><->->", sign("->", 0), sign("<->", 2), sign("->", 5), end(7))
}

func TestSignsThatAreNone(t *testing.T) {
	for _, s := range []string{"-", "<", "<-", "--", "<<", "<>", "<--", "<-<", "- >", "<- >", "< ->", "-\x00", "<-\xff"} {
		wantError(t, s, api.ErrLexSign, 0)
		wantError(t, "a "+s, api.ErrLexSign, 2, name("a", 0))
		wantError(t, "a"+s+"b", api.ErrLexSign, 1, name("a", 0))
	}
	wantError(t, "-->", api.ErrLexSign, 0)
	wantError(t, "->-", api.ErrLexSign, 2, sign("->", 0))
	wantError(t, "->>", api.ErrLexSign, 2, sign("->", 0))
	wantError(t, "<->>", api.ErrLexSign, 3, sign("<->", 0))
	wantError(t, "<<->", api.ErrLexSign, 0)
}

// Each byte by itself, within, and behind a token.
func TestAnyByte(t *testing.T) {
	for b := range 256 {
		s := string([]byte{byte(b)})
		switch {
		case strings.Contains(" \t\n\r", s):
			wantTokens(t, s, end(1))
		case strings.Contains("!&|()", s):
			wantTokens(t, s, sign(s, 0), end(1))
		case slices.Contains(words, s):
			wantTokens(t, s, word(s, 0), end(1))
		case b == '_' || b >= 'A' && b <= 'Z' || b >= 'a' && b <= 'z':
			wantTokens(t, s, name(s, 0), end(1))
		case b == '"':
			wantError(t, s, api.ErrLexQuote, 0)
		default:
			wantError(t, s, api.ErrLexSign, 0)
			wantError(t, "( "+s+" )", api.ErrLexSign, 2, sign("(", 0))
			if b < '0' || b > '9' {
				wantError(t, "a"+s, api.ErrLexSign, 1, name("a", 0))
			}
		}
	}
}

func TestFirstErrorOfTwo(t *testing.T) {
	wantError(t, `a $ "b`, api.ErrLexSign, 2, name("a", 0))
	wantError(t, `a "" $`, api.ErrLexName, 2, name("a", 0))
	wantError(t, `a "b\" $`, api.ErrLexQuote, 2, name("a", 0))
	wantError(t, tooMany+" -", api.ErrLexName, 0)
	wantError(t, "- "+tooMany, api.ErrLexSign, 0)
	wantError(t, `"$`, api.ErrLexQuote, 0)
	wantError(t, "$$", api.ErrLexSign, 0)
}
