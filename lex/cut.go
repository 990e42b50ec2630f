package lex

import (
	"iter"
	"strings"

	"augur/api"
)

// cut goes through the tokens of a text. Where one is none, that is the last
// thing it tells: an error, and a token that has its place alone.
func cut(text string) iter.Seq2[api.Token, api.Errno] {
	begins := beginnings()
	// All that changes is made within, so that it can be ranged over again, and
	// within itself.
	return func(yield func(api.Token, api.Errno) bool) {
		at := 0
		for {
			at += blanks(text[at:])
			if at == len(text) {
				yield(api.Token{Kind: api.TokenEnd, At: at}, api.OK)
				return
			}
			p := begins[text[at]](rest(text[at:]))
			if p.err != api.OK {
				yield(api.Token{At: at}, p.err)
				return
			}
			if !yield(api.Token{Kind: p.kind, Text: p.text, At: at}, api.OK) {
				return
			}
			at += p.width
		}
	}
}

// blanks are how many of them a text begins with.
func blanks(s string) int { return len(s) - len(strings.TrimLeft(s, " \t\n\r")) }

// rest is what is left of a text, from a token's first byte on: never empty.
type rest string

// piece is what stands there: a token and how many bytes it takes, or an error.
type piece struct {
	kind  api.TokenKind
	text  string
	width int
	err   api.Errno
}

// beginnings has for each byte what it begins.
func beginnings() [256]func(rest) piece {
	var table [256]func(rest) piece
	for b := range table {
		table[b] = rest.none
		if isLetter(byte(b)) {
			table[b] = rest.bare
		}
	}
	for _, b := range []byte("!&|()") {
		table[b] = rest.sign
	}
	table['"'] = rest.quoted
	table['-'] = rest.arrow
	table['<'] = rest.doubleArrow
	return table
}

func (r rest) none() piece { return piece{err: api.ErrLexSign} }

func (r rest) sign() piece { return r.exactly(string(r[:1])) }

func (r rest) arrow() piece { return r.exactly("->") }

func (r rest) doubleArrow() piece { return r.exactly("<->") }

func (r rest) exactly(sign string) piece {
	if !strings.HasPrefix(string(r), sign) {
		return r.none()
	}
	return piece{kind: api.TokenSign, text: sign, width: len(sign)}
}

func (r rest) bare() piece {
	n := bareLen(string(r))
	text := string(r[:n])
	if isWord(text) {
		return piece{kind: api.TokenWord, text: text, width: n}
	}
	return named(text, n)
}

func (r rest) quoted() piece {
	text, _, closed := strings.Cut(string(r[1:]), `"`)
	if !closed || !quotable(text) {
		return piece{err: api.ErrLexQuote}
	}
	return named(text, len(text)+2)
}

func named(text string, width int) piece {
	if !goodLen(text) {
		return piece{err: api.ErrLexName}
	}
	return piece{kind: api.TokenName, text: text, width: width}
}
