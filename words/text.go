package words

import (
	"math"
	"strconv"

	"augur/api"
)

const maxText = 65536

// Show writes a word; nothing of what has no loop.
func Show(w api.Word) string {
	if !endless(w) {
		return ""
	}
	var text []byte
	for _, letter := range w.Stem {
		text = append(strconv.AppendUint(text, uint64(letter), 10), ' ')
	}
	text = append(text, '(')
	for i, letter := range w.Loop {
		if i > 0 {
			text = append(text, ' ')
		}
		text = strconv.AppendUint(text, uint64(letter), 10)
	}
	return string(append(text, ')'))
}

// Read reads one; with an error its place.
func Read(s string) (api.Word, api.Errno, int) {
	if len(s) > maxText {
		return api.Word{}, api.ErrWordsText, maxText
	}
	r := reader{text: s}
	w, ok := r.word()
	if !ok {
		return api.Word{}, api.ErrWordsText, r.at
	}
	return w, api.OK, 0
}

// reader is a text, read as far as at. It takes no byte with which no word's
// text goes on: so, where it stops, at is how much of one there is.
type reader struct {
	text string
	at   int
}

// word reads all of the text; false, if it is no word's.
func (r *reader) word() (api.Word, bool) {
	stem := r.letters()
	if !r.take('(') {
		return api.Word{}, false
	}
	loop := r.letters()
	if len(loop) == 0 || !r.take(')') {
		return api.Word{}, false
	}
	r.blanks()
	return api.Word{Stem: stem, Loop: loop}, r.at == len(r.text)
}

// letters reads as many as there are, perhaps none, and the blanks around them.
func (r *reader) letters() []uint16 {
	var list []uint16
	for {
		r.blanks()
		if !r.atDigit() {
			return list
		}
		list = append(list, r.letter())
		// A digit that the letter could not take belongs to no other one either:
		// whoever wants a bracket next finds it in the way.
		if r.atDigit() {
			return list
		}
	}
}

// letter reads the longest one that begins here, with a digit.
func (r *reader) letter() uint16 {
	value := 0
	for first := r.at; r.atDigit(); r.at++ {
		longer := value*10 + int(r.text[r.at]-'0')
		// Behind a nought that stands first there is no more of the letter.
		if longer > math.MaxUint16 || value == 0 && r.at > first {
			break
		}
		value = longer
	}
	return uint16(value)
}

func (r *reader) atDigit() bool {
	return r.at < len(r.text) && r.text[r.at] >= '0' && r.text[r.at] <= '9'
}

func (r *reader) blanks() {
	for r.take(' ') {
	}
}

// take reads that byte, if it comes next.
func (r *reader) take(b byte) bool {
	if r.at == len(r.text) || r.text[r.at] != b {
		return false
	}
	r.at++
	return true
}
