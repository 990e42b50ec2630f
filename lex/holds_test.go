package lex_test

import (
	"iter"
	"regexp"
	"slices"
	"strings"
	"testing"

	"augur/api"
	"augur/lex"
)

// texts are all texts of at most that many of these bytes.
func texts(most int) iter.Seq[string] {
	const bytes = "aX1\"\\-><! \x80"
	return func(yield func(string) bool) {
		var grow func(string) bool
		grow = func(s string) bool {
			if !yield(s) {
				return false
			}
			if len(s) == most {
				return true
			}
			for i := range len(bytes) {
				if !grow(s + bytes[i:i+1]) {
					return false
				}
			}
			return true
		}
		grow("")
	}
}

// The chapter's table as patterns, the first that is met holding.
var patterns = []struct {
	kind api.TokenKind // 0: the error
	err  api.Errno
	form *regexp.Regexp
}{
	{api.TokenWord, 0, regexp.MustCompile(`^(?:true|false|[XFGURWMYZOHST])\b`)},
	{api.TokenName, 0, regexp.MustCompile(`^[A-Za-z_][A-Za-z0-9_]{0,31}\b`)},
	{0, api.ErrLexName, regexp.MustCompile(`^[A-Za-z_]`)},
	{api.TokenName, 0, regexp.MustCompile(`^"[ !#-\[\]-~]{1,32}"`)},
	{0, api.ErrLexName, regexp.MustCompile(`^"[ !#-\[\]-~]*"`)},
	{0, api.ErrLexQuote, regexp.MustCompile(`^"`)},
	{api.TokenSign, 0, regexp.MustCompile(`^(?:[!&|()]|->|<->)`)},
	{0, api.ErrLexSign, regexp.MustCompile(`^[^ \t\n\r]`)},
}

// byPatterns cuts a text another way than the program does.
func byPatterns(text string) ([]api.Token, api.Errno, int) {
	var list []api.Token
	at := 0
next:
	for {
		for at < len(text) && strings.IndexByte(" \t\n\r", text[at]) >= 0 {
			at++
		}
		for _, p := range patterns {
			found := p.form.FindString(text[at:])
			if found == "" {
				continue
			}
			if p.kind == 0 {
				return list, p.err, at
			}
			list = append(list, api.Token{Kind: p.kind, Text: strings.Trim(found, `"`), At: at})
			at += len(found)
			continue next
		}
		return append(list, end(at)), api.OK, 0
	}
}

func TestAllShortTexts(t *testing.T) {
	for s := range texts(5) {
		want, err, at := byPatterns(s)
		if err == api.OK {
			wantTokens(t, s, want...)
		} else {
			wantError(t, s, err, at, want...)
		}
	}
}

// manyTexts are short ones and some longer ones, of pieces that go together and that do not.
func manyTexts() iter.Seq[string] {
	pieces := slices.Concat(words, signs, []string{"a", "bc1", "_", `"a b"`, `"X"`, `"->"`, " ", "\n\t", most, `"` + most + `"`, "\r", "$", "7", `"`, `""`, "-", "<", "<-", "\xff", tooMany, `\`})
	return func(yield func(string) bool) {
		for s := range texts(4) {
			if !yield(s) {
				return
			}
		}
		seed := uint32(1)
		for range 20000 {
			var b strings.Builder
			for range 1 + seed>>28 {
				seed = seed*1664525 + 1013904223
				b.WriteString(pieces[int(seed>>16)%len(pieces)])
			}
			if !yield(b.String()) {
				return
			}
		}
	}
}

// What holds: places rise; between tokens stand blanks alone.
func TestPlacesAndBlanks(t *testing.T) {
	for s := range manyTexts() {
		behind := 0
		for k := range lex.All(s) {
			if k.At < behind || strings.Trim(s[behind:k.At], " \t\n\r") != "" {
				t.Fatalf("%q: %v behind %d", s, k, behind)
			}
			own := k.Text
			if k.Kind == api.TokenName && s[k.At] == '"' {
				own = `"` + k.Text + `"`
			}
			if !strings.HasPrefix(s[k.At:], own) || k.Kind != api.TokenEnd && own == "" {
				t.Fatalf("%q: %v", s, k)
			}
			behind = k.At + len(own)
			if k.Kind == api.TokenEnd && (k.At != len(s) || k.Text != "") {
				t.Fatalf("%q: the end %v", s, k)
			}
		}
	}
}

// What holds: tokens with one blank between are the same tokens, but for their places.
func TestOneBlankBetween(t *testing.T) {
	for s := range manyTexts() {
		list, err, _ := lex.Tokens(s)
		if err != api.OK {
			continue
		}
		var again []string
		at := 0
		for i, k := range list {
			own := k.Text
			if k.Kind == api.TokenName {
				own = lex.Quote(k.Text)
			}
			again = append(again, own)
			list[i].At = at
			at += len(own) + 1
		}
		wantTokens(t, strings.Join(again, " "), list...)
	}
}

// What holds: a text that is cut off at an error has just the tokens ahead of it.
func TestCutOffAtAnError(t *testing.T) {
	errors := 0
	for s := range manyTexts() {
		_, err, at := lex.Tokens(s)
		if err == api.OK {
			continue
		}
		errors++
		wantTokens(t, s[:at], append(slices.Collect(lex.All(s)), end(at))...)
	}
	if errors < 1000 {
		t.Errorf("%d errors alone", errors)
	}
}
