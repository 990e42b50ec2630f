package words_test

import (
	"fmt"
	"regexp"
	"strconv"
	"strings"
	"testing"

	"augur/api"
	"augur/words"
)

const oneLetter = `(?:0|[1-9][0-9]{0,3}|[1-5][0-9]{4}|6[0-4][0-9]{3}|65[0-4][0-9]{2}|655[0-2][0-9]|6553[0-5])`

// The form of a text, as a pattern.
var form = regexp.MustCompile(`\A *(?:` + oneLetter + ` +)*(?:` + oneLetter + `)?\( *` + oneLetter + `(?: +` + oneLetter + `)* *\) *\z`)

// begins tells whether some text begins so: whatever is read so far, one of these ends it.
func begins(s string) bool {
	for _, end := range []string{"(0)", "0)", ")", ""} {
		if form.MatchString(s + end) {
			return true
		}
	}
	return false
}

// placeByHand is how much of s some text begins with.
func placeByHand(s string) int {
	for n := range len(s) {
		if !begins(s[:n+1]) {
			return n
		}
	}
	return len(s)
}

// reads wants what Read tells of a text of at most 65536 bytes.
func reads(t *testing.T, s string) {
	t.Helper()
	w, err, at := words.Read(s)
	if form.MatchString(s) {
		if err != api.OK || at != 0 || !alike(w, of(s)) {
			t.Fatalf("%.99q: %v, %v at %d", s, w, err, at)
		}
		return
	}
	if err != api.ErrWordsText || at != placeByHand(s) || len(w.Stem)+len(w.Loop) != 0 {
		t.Fatalf("%.99q: %v, %v at %d, want %d", s, w, err, at, placeByHand(s))
	}
}

func fails(t *testing.T, s string, place int) {
	t.Helper()
	if w, err, at := words.Read(s); err != api.ErrWordsText || at != place || len(w.Stem)+len(w.Loop) != 0 {
		t.Errorf("%.40q: %d letters, %v at %d, want %d", s, len(w.Stem)+len(w.Loop), err, at, place)
	}
}

// Example 5, and others by hand.
func TestReadExamples(t *testing.T) {
	for text, want := range map[string]string{
		" 1 2(3  4 ) ": "1 2 (3 4)", "(0)": "(0)", "1 2 (3 2 3 2)": "1 2 (3 2 3 2)", "0 0(0 0)": "0 0 (0 0)", "65535(65535)": "65535 (65535)", "(10 100)": "(10 100)",
	} {
		if w, err, at := words.Read(text); err != api.OK || at != 0 || !alike(w, of(want)) || words.Show(w) != want {
			t.Errorf("%q: %v, %v at %d", text, w, err, at)
		}
	}
	for text, place := range map[string]int{
		"1 2": 3, "()": 1, "(01)": 2, "(65536)": 5, "(1) 2": 4, "": 0,
		" ": 1, "1": 1, "(": 1, "(1": 2, "(1 ": 3, ")": 0, "1)": 1, "1 )": 2, "( )": 2, "(1(": 2, "(1)(": 3, "(1)1": 3, "(1) (2)": 4, "((1))": 1, "(1))": 3,
		"00(1)": 1, "01(1)": 1, "0 01(1)": 3, "65536(1)": 4, "655350(1)": 5, "100000(1)": 5, "99999(1)": 4, "(1,2)": 2, "(-1)": 1, "(+1)": 1, "(1.0)": 2, "(0x1)": 2, "(1_0)": 2, "(1e1)": 2,
		"\t(1)": 0, "(1)\n": 3, "(1\t2)": 2, "(1\r)": 2, "\u00a0(1)": 0, "(１)": 1, "(1)\x00": 3, "\xff": 0, "(1\x802)": 2, "[1]": 0, "a": 0,
	} {
		fails(t, text, place)
	}
}

// Every short text of these bytes.
func TestReadAllShortTexts(t *testing.T) {
	var ask func(s string)
	ask = func(s string) {
		reads(t, s)
		if len(s) < 6 {
			for _, b := range []string{"0", "1", " ", "(", ")", "x"} {
				ask(s + b)
			}
		}
	}
	ask("")
	for _, ahead := range []string{"(6553", "(655", "6553", "9999 (9", "1(65535 6553"} {
		for n := range 1000 {
			s := ahead + strconv.Itoa(n)
			reads(t, s)
			reads(t, s+")")
			reads(t, s+"(1)")
		}
	}
}

// Every byte, in every place of a text.
func TestReadEveryByte(t *testing.T) {
	const text = " 10 2( 3  65535 ) "
	for at := range len(text) {
		for b := range 256 {
			one := string([]byte{byte(b)})
			reads(t, text[:at]+one+text[at+1:])
			reads(t, text[:at]+one+text[at:])
			reads(t, text[:at]+one)
		}
		reads(t, text[:at])
		reads(t, text[at:])
		reads(t, text[:at]+text[at+1:])
	}
}

// Every letter, and what is none: above 65535, or with noughts ahead.
func TestReadEveryLetter(t *testing.T) {
	for n := range 70000 {
		text := fmt.Sprintf("%d (%d)", n, n)
		w, err, at := words.Read(text)
		if n <= 65535 {
			if err != api.OK || len(w.Stem) != 1 || len(w.Loop) != 1 || int(w.Stem[0]) != n || int(w.Loop[0]) != n || words.Show(w) != text {
				t.Fatalf("%s: %v, %v at %d", text, w, err, at)
			}
		} else if err != api.ErrWordsText || at != 4 {
			t.Fatalf("%s: %v at %d", text, err, at)
		}
	}
	for _, many := range []int{6, 19, 20, 21, 40, 60000} {
		fails(t, strings.Repeat("9", many)+"(1)", 4)
		fails(t, "("+strings.Repeat("1", many)+")", 6)
		fails(t, "("+strings.Repeat("0", many)+")", 2)
	}
}

// Texts of at most 65536 bytes are read; of longer ones nothing is looked at.
func TestReadLongTexts(t *testing.T) {
	const most = 65536
	for _, text := range []string{
		strings.Repeat(" ", most-3) + "(1)", "(1)" + strings.Repeat(" ", most-3), "(" + strings.Repeat(" ", most-3) + "1)",
		strings.Repeat("1 ", most/2-2) + "(1) ", "(" + strings.Repeat("1 ", most/2-1) + ")", strings.Repeat("65535 ", 10000) + "(0)",
	} {
		if w, err, at := words.Read(text); err != api.OK || at != 0 || !alike(w, of(text)) {
			t.Errorf("%.20q, %d bytes: %v at %d", text, len(text), err, at)
		}
	}
	fails(t, strings.Repeat(" ", most), most)
	fails(t, strings.Repeat("1 ", most/2), most)
	fails(t, "("+strings.Repeat("1 ", most/2-1)+"1", most)
	fails(t, "x"+strings.Repeat(" ", most-1), 0)
	for _, text := range []string{
		strings.Repeat(" ", most-2) + "(1)", "(1)" + strings.Repeat(" ", most-2), strings.Repeat(" ", most+1), "x" + strings.Repeat(" ", most),
		"(" + strings.Repeat("1 ", most/2) + ")", strings.Repeat("9", most+1), strings.Repeat("\xff", 1<<20),
	} {
		fails(t, text, most)
	}
}

func TestShow(t *testing.T) {
	for _, c := range []struct {
		w    api.Word
		want string
	}{
		{api.Word{Loop: []uint16{0}}, "(0)"}, {api.Word{Stem: []uint16{1, 2}, Loop: []uint16{3, 4}}, "1 2 (3 4)"},
		{api.Word{Stem: []uint16{65535}, Loop: []uint16{0, 10, 0}}, "65535 (0 10 0)"}, {api.Word{Stem: []uint16{0, 0}, Loop: []uint16{0, 0}}, "0 0 (0 0)"},
	} {
		if got := words.Show(c.w); got != c.want {
			t.Errorf("%v: %q", c.w, got)
		}
	}
}

// T5: Read of Show is the word, as it was written.
func TestThereAndBack(t *testing.T) {
	for w := range written(3, 6) {
		if back, err, at := words.Read(words.Show(w)); err != api.OK || at != 0 || !alike(back, w) {
			t.Fatalf("%v: %v, %v at %d", w, back, err, at)
		}
	}
	// A text of just 65536 bytes, and one of a byte more.
	w := api.Word{Stem: make([]uint16, 1), Loop: make([]uint16, 32766)}
	w.Stem[0] = 10
	text := words.Show(w)
	if len(text) != 65536 {
		t.Fatalf("%d bytes", len(text))
	}
	if back, err, at := words.Read(text); err != api.OK || at != 0 || !alike(back, w) {
		t.Errorf("%v at %d", err, at)
	}
	w.Stem[0] = 100
	fails(t, words.Show(w), 65536)
}
