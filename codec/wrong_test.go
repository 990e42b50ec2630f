package codec_test

import (
	"runtime"
	"strings"
	"testing"

	"augur/api"
	"augur/codec"
)

// fault is bytes that are no record, and the place of what is wrong first.
type fault struct {
	bytes string
	at    int
}

// wantFaults wants each to be none: as it is; and, if what is wrong stands in it, with its sum behind it too. (What lacks at its end the sum's bytes might be.)
func wantFaults[T any](t *testing.T, k kind[T], faults []fault) {
	t.Helper()
	for _, f := range faults {
		wantNone(t, k, []byte(f.bytes), f.at)
		if f.at < len(f.bytes) {
			wantNone(t, k, sealed(f.bytes), f.at)
		}
	}
}

// wantMayNot wants parts that are all there, with their sum, to be none as a whole: at 0; but with a wrong sum at that, and with something behind it there.
func wantMayNot[T any](t *testing.T, k kind[T], parts string) {
	t.Helper()
	b := sealed(parts)
	wantNone(t, k, b, 0)
	wantNone(t, k, append(sealed(parts), 0), len(b))
	wantNone(t, k, b[:len(b)-1], len(parts))
	wantNone(t, k, b[:len(parts)], len(parts))
	for i := len(parts); i < len(b); i++ {
		b[i] ^= 0x40
		wantNone(t, k, b, len(parts))
		b[i] ^= 0x40
	}
}

// Another byte than the thing's, and none at all.
func TestWhich(t *testing.T) {
	for which := range 256 {
		first := string([]byte{byte(which)})
		for _, rest := range []string{"", "\x01", "\x00\x01\x00", "\x00\x01\x03\x00", "\x00\x00\x00\x00\x00"} {
			wantWhich(t, formulas(), first+rest)
			wantWhich(t, infinite(), first+rest)
			wantWhich(t, machines(), first+rest)
			wantWhich(t, automata(), first+rest)
		}
	}
}

func wantWhich[T any](t *testing.T, k kind[T], parts string) {
	t.Helper()
	if parts[0] != k.which {
		wantFaults(t, k, []fault{{parts, 0}})
	}
}

// wrongNumbers are bytes that are no number that is at most 4294967295, whatever comes behind them; but for the last few, which lack an end.
func wrongNumbers() (wrong, cut []string) {
	return []string{
		"\x80\x00", "\x81\x00", "\xff\x00", "\x80\x80\x00", "\xff\xff\x00", "\x81\x80\x80\x80\x00", // in more bytes than it needs
		"\x80\x80\x80\x80\x10", "\xff\xff\xff\xff\x10", "\xff\xff\xff\xff\x7f", "\x80\x80\x80\x80\x70", // above
		"\x80\x80\x80\x80\x80\x01", "\xff\xff\xff\xff\xff\xff\xff\xff\xff\x01", "\x81\x80\x80\x80\x80\x80\x80\x80\x80\x80\x02", "\x81\x80\x80\x80\x80\x80\x80\x80\x80\x80\x00", // far above, or far too long
	}, []string{"", "\x80", "\xff", "\x80\x80\x80\x80"}
}

// wrongLetters are those above 65535.
func wrongLetters() []string {
	return []string{"\x80\x80\x04", "\xff\xff\x07", "\x80\x80\x80\x01", "\xff\xff\xff\xff\x0f"}
}

// wantNumber wants a number to be refused at a place: that behind these bytes, and ahead of those.
func wantNumber[T any](t *testing.T, k kind[T], ahead, behind string, letter bool) {
	t.Helper()
	wrong, cut := wrongNumbers()
	if letter {
		wrong = append(wrong, wrongLetters()...)
	}
	for _, number := range wrong {
		wantFaults(t, k, []fault{{ahead + number, len(ahead)}, {ahead + number + behind, len(ahead)}})
	}
	for _, number := range cut {
		wantNone(t, k, []byte(ahead+number), len(ahead))
	}
}

// Numbers wherever they stand.
func TestWrongNumbers(t *testing.T) {
	wantNumber(t, formulas(), "f\x03", "p", false)
	wantNumber(t, formulas(), "f\x05\x03\x01p\x03", "p", false)
	wantNumber(t, infinite(), "w", "\x00\x01\x00", false)
	wantNumber(t, infinite(), "w\x00", "\x01\x00", false)
	wantNumber(t, infinite(), "w\x02\x00", "\x01\x00", true)
	wantNumber(t, infinite(), "w\x00\x02\x00", "", true)
	wantNumber(t, machines(), "m", "\x01\x03\x00", false)
	wantNumber(t, machines(), "m\x01", "p\x01\x03\x00\x00", false)
	wantNumber(t, machines(), "m\x00", "\x03\x00", false)
	wantNumber(t, machines(), "m\x01\x01p\x01\x03\x00", "", false)
	wantNumber(t, automata(), "b", "\x00\x00\x00\x00", false)
	wantNumber(t, automata(), "b\x01", "p\x00\x00\x00\x00", false)
	wantNumber(t, automata(), "b\x00", "\x00\x00\x00", false)
	wantNumber(t, automata(), "b\x00\x01", "\x00\x00\x00", false)
	wantNumber(t, automata(), "b\x00\x01\x01", "\x00\x00", false)
	wantNumber(t, automata(), "b\x00\x01\x00", "\x00", false)
	wantNumber(t, automata(), "b\x00\x01\x00\x01", "\x00\x00\x00\x00", false)
	wantNumber(t, automata(), "b\x00\x01\x00\x01\x00", "\x00\x00\x00", false)
	wantNumber(t, automata(), "b\x00\x01\x00\x01\x00\x00", "\x00\x00", true)
	wantNumber(t, automata(), "b\x00\x01\x00\x01\x00\x00\x00", "\x00", true)
	wantNumber(t, automata(), "b\x00\x01\x00\x00", "", false)
	wantNumber(t, automata(), "b\x00\x01\x00\x00\x01", "", false)
}

// Numbers that are as great as they may be: what is wrong stands behind them.
func TestGreatNumbers(t *testing.T) {
	const most, letter = "\xff\xff\xff\xff\x0f", "\xff\xff\x03"
	wantFaults(t, formulas(), []fault{{"f\x03" + most, 7}, {"f\x03" + most + "p", 7}})
	wantFaults(t, infinite(), []fault{{"w" + most, 6}, {"w\x00" + most, 7}, {"w\x00" + most + letter, 10}})
	wantMayNot(t, infinite(), "w\x01"+letter+"\x01"+letter)
	wantMayNot(t, infinite(), "w\x00\x01\x80\x02") // 256
	wantFaults(t, machines(), []fault{{"m" + most, 6}, {"m\x01" + most, 7}, {"m\x00" + most, 7}})
	wantMayNot(t, machines(), "m\x00\x01\x03"+most)
	wantFaults(t, automata(), []fault{{"b\x00" + most, 7}, {"b\x00\x00" + most, 8}, {"b\x00\x00\x00" + most, 9}, {"b\x00\x00\x00\x00" + most, 10}})
	wantMayNot(t, automata(), "b\x00"+most+"\x00\x00\x00")
	wantMayNot(t, automata(), "b\x00\x81\x80\x04\x00\x00\x00") // 65537 states
	wantMayNot(t, automata(), "b\x00\x01\x01"+most+"\x00\x00")
	wantMayNot(t, automata(), "b\x00\x01\x00\x01"+most+"\x00\x00\x00\x00")
	wantMayNot(t, automata(), "b\x00\x01\x00\x01\x00"+most+"\x00\x00\x00")
	wantMayNot(t, automata(), "b\x00\x01\x00\x01\x00\x00"+letter+"\x00\x00")
	wantMayNot(t, automata(), "b\x00\x01\x00\x01\x00\x00\x00"+letter+"\x00")
	wantMayNot(t, automata(), "b\x00\x01\x00\x00\x01"+most)
}

// Bytes of a text that are no name, or are not all there.
func TestWrongNames(t *testing.T) {
	for _, name := range notNames() {
		text := string(putNumbers(nil, len(name)))
		wantFaults(t, formulas(), []fault{{"f\x03" + text + name, 2 + len(text)}})
		wantFaults(t, machines(), []fault{{"m\x01" + text + name, 2 + len(text)}, {"m\x02\x01p" + text + name, 4 + len(text)}})
		wantFaults(t, automata(), []fault{{"b\x01" + text + name, 2 + len(text)}, {"b\x02\x01p" + text + name, 4 + len(text)}})
		wantNone(t, formulas(), sealed("f\x03"+text+name), 2+len(text))
		wantNone(t, machines(), sealed("m\x01"+text+name+"\x01\x03\x00\x00"), 2+len(text))
		wantNone(t, automata(), sealed("b\x01"+text+name+"\x00\x00\x00\x00"), 2+len(text))
	}
	for length := 1; length <= 32; length++ {
		for there := range length {
			// With no sum: its bytes might be the rest of the name.
			cut := string(rune(length)) + strings.Repeat("n", there)
			wantNone(t, formulas(), []byte("f\x03"+cut), 3)
			wantNone(t, machines(), []byte("m\x01"+cut), 3)
			wantNone(t, automata(), []byte("b\x01"+cut), 3)
		}
	}
}

// Ops that are none, stand too deep, or are too many.
func TestWrongOps(t *testing.T) {
	k := formulas()
	for op := range 256 {
		if op >= 1 && op <= 21 {
			continue
		}
		none := string([]byte{byte(op)})
		wantFaults(t, k, []fault{{"f" + none, 1}, {"f\x04" + none, 2}, {"f\x05" + none + "\x01", 2}, {"f\x05\x01" + none, 3}, {"f\x14\x03\x01p" + none, 5}})
	}
	wantFaults(t, k, []fault{{"f", 1}, {"f\x04", 2}, {"f\x05", 2}, {"f\x05\x01", 3}, {"f\x05\x03\x01p", 5}, {"f\x05\x05\x01\x01", 5}})
	for op := byte(1); op <= 21; op++ {
		deep := "f" + strings.Repeat("\x09", 100) + string([]byte{op})
		wantFaults(t, k, []fault{{deep, 101}, {deep + "\x01\x01", 101}})
	}
	wantFaults(t, k, []fault{{"f" + strings.Repeat("\x09", 100), 101}, {"f" + strings.Repeat("\x09", 100) + "\x00", 101}, {"f" + strings.Repeat("\x04", 300) + "\x01", 101}, {"f" + strings.Repeat("\x10", 100000), 101}})
	down := strings.Repeat("\x09", 98) + "\x01"
	if _, err, at := codec.ReadFormula(sealed("f\x05" + down + down)); err != api.OK {
		t.Errorf("two ways that are 100 deep: %v, %d", err, at)
	}
	wantFaults(t, k, []fault{{"f\x05" + down + "\x09" + down, 200}, {"f\x05\x09" + down + down, 101}, {"f\x09\x05" + down + down, 101}})
	wantFaults(t, k, []fault{{"f\x05" + down + strings.Repeat("\x09", 99), 200}, {"f\x05" + down + strings.Repeat("\x09", 99) + "\xff", 200}})
}

// The 1001st Op is refused where it stands, whatever it is.
func TestTooManyOps(t *testing.T) {
	k := formulas()
	var flat func(size int) string // of leaves that are true
	flat = func(size int) string {
		switch size {
		case 1:
			return "\x01"
		case 2:
			return "\x04\x01"
		}
		return "\x05" + flat((size-1)/2) + flat(size-1-(size-1)/2)
	}
	if _, err, at := codec.ReadFormula(sealed("f" + flat(1000))); err != api.OK {
		t.Errorf("1000 Ops: %v, %d", err, at)
	}
	wantFaults(t, k, []fault{{"f" + flat(1001), 1001}, {"f" + flat(1002), 1001}, {"f" + flat(5000), 1001}, {"f" + flat(1001)[:1000], 1001}, {"f" + flat(1001)[:1000] + "\x00", 1001}})
	wantFaults(t, k, []fault{{"f" + flat(1001)[:999] + "\x00", 1000}, {"f" + flat(1001)[:999], 1000}})
	for _, op := range []api.Op{api.OpOr, api.OpRelease, api.OpSince} {
		for _, size := range []int{1001, 1100, 3000} {
			b := k.record(broad(op, size))
			_, _, at, _ := k.byHand(b)
			wantNone(t, k, b, at)
		}
	}
}

// Formulas all of whose parts are there, and which are none: of the past and of the future.
func TestBothTimes(t *testing.T) {
	k := formulas()
	for future := byte(9); future <= 15; future++ {
		for past := byte(16); past <= 21; past++ {
			ahead := func(op byte) string { return string([]byte{op}) + strings.Repeat("\x01", kidsOf(api.Op(op))-1) }
			wantMayNot(t, k, "f"+ahead(future)+ahead(past)+"\x01")
			wantMayNot(t, k, "f"+ahead(past)+"\x04"+ahead(future)+"\x02")
			wantMayNot(t, k, "f\x06"+ahead(past)+"\x01"+ahead(future)+"\x01")
		}
	}
}

// Words all of whose parts are there, and which are none.
func TestWordsThatMayNot(t *testing.T) {
	for _, parts := range []string{"w\x00\x00", "w\x01\x00\x00", "w\x00\x01\x80\x02", "w\x01\x80\x02\x01\x00", "w\x00\x02\x00\xff\xff\x03", "w\x02\x00\xac\x02\x02\x00\x01"} {
		wantMayNot(t, infinite(), parts)
	}
}

// Machines all of whose parts are there, and which are none; Outs that are none; and those for which there would have to be very many letters.
func TestMachinesThatMayNot(t *testing.T) {
	k := machines()
	for out := range 256 {
		if out < 1 || out > 3 {
			none := string([]byte{byte(out)})
			wantFaults(t, k, []fault{{"m\x00\x01" + none + "\x00", 3}, {"m\x00\x02\x03\x00" + none + "\x00", 5}, {"m\x01\x01p\x01" + none, 5}})
		}
	}
	wantFaults(t, k, []fault{{"m", 1}, {"m\x00", 2}, {"m\x00\x01", 3}, {"m\x00\x01\x03", 4}, {"m\x01\x01p\x01\x03\x00", 7}, {"m\x00\x02\x03\x00", 5}})
	for _, parts := range []string{"m\x00\x00", "m\x01\x01p\x00", "m\x00\x01\x03\x01", "m\x00\x02\x03\x00\x01\x02", "m\x01\x01p\x01\x03\x00\x01", "m\x02\x01p\x01p\x01\x03\x00\x00\x00\x00"} {
		wantMayNot(t, k, parts)
	}
	many := func(count int) string {
		b := putNumbers([]byte("m"), count)
		for i := range count {
			b = append(putNumbers(b, 2), byte('a'+i/26), byte('a'+i%26))
		}
		return string(b)
	}
	nine := many(9) + "\x01\x03"
	wantMayNot(t, k, nine+strings.Repeat("\x00", 512))
	wantFaults(t, k, []fault{{nine + strings.Repeat("\x00", 511), len(nine) + 511}})
	wantNone(t, k, sealed(nine+strings.Repeat("\x00", 513)), len(nine)+512)
	for _, count := range []int{9, 31, 32, 33, 62, 63, 64, 65, 66, 128, 300} {
		wantMayNot(t, k, many(count)+"\x00")
		if count > 9 {
			wantFaults(t, k, []fault{{many(count) + "\x01\x02", len(many(count)) + 2}, {many(count) + "\x01\x02\x00\x00", len(many(count)) + 4}, {many(count) + "\x01\x00", len(many(count)) + 1}})
		}
	}
}

// Automata all of whose parts are there, and which are none.
func TestAutomataThatMayNot(t *testing.T) {
	k := automata()
	wantFaults(t, k, []fault{{"b", 1}, {"b\x00", 2}, {"b\x00\x01", 3}, {"b\x00\x01\x01", 4}, {"b\x00\x01\x00", 4}, {"b\x00\x01\x00\x00", 5}, {"b\x00\x01\x00\x00\x01", 6}})
	for lack := range 4 {
		edge := "b\x00\x01\x00\x01" + strings.Repeat("\x00", lack)
		wantFaults(t, k, []fault{{edge, 5 + lack}})
	}
	for _, parts := range []string{
		"b\x00\x00\x01\x00\x00\x00", "b\x00\x00\x00\x00\x01\x00", "b\x00\x00\x00\x01\x00\x00\x00\x00\x00", // no states
		"b\x00\x02\x02\x01\x00\x00\x00", "b\x00\x02\x02\x01\x01\x00\x00", "b\x00\x02\x00\x00\x02\x01\x00", "b\x00\x02\x00\x00\x02\x00\x00", // not rising
		"b\x00\x01\x00\x01\x00\x00\x01\x00\x00", "b\x01\x01p\x01\x00\x01\x00\x00\x00\x02\x00", "b\x01\x01p\x01\x00\x01\x00\x00\x01\x01\x00", // letters
		"b\x01\x01p\x01\x00\x02\x00\x00\x01\x00\x00\x00\x00\x00\x00", "b\x00\x01\x00\x02\x00\x00\x00\x00\x00\x00\x00\x00\x00", // edges that fall, or are one twice
		"b\x02\x01p\x01p\x00\x00\x00\x00", "b\x09\x01a\x01b\x01c\x01d\x01e\x01f\x01g\x01h\x01i\x00\x00\x00\x00", // names
	} {
		wantMayNot(t, k, parts)
	}
}

// wantLittle wants bytes that say that there is much, and lack it, to be refused without room made for all that.
func wantLittle[T any](t *testing.T, k kind[T], text string) {
	t.Helper()
	b := []byte(text)
	var before, after runtime.MemStats
	runtime.ReadMemStats(&before)
	_, err, _ := k.read(b)
	runtime.ReadMemStats(&after)
	if taken := after.TotalAlloc - before.TotalAlloc; err != api.ErrCodecForm || taken > 1<<20 {
		t.Errorf("%s: %x: %v, and %d bytes are taken", k.name, text, err, taken)
	}
}

func TestMuchIsSaid(t *testing.T) {
	for _, most := range []string{"\xff\xff\xff\xff\x0f", "\xff\xff\xff\x7f", "\x80\x80\x80\x80\x01"} {
		wantLittle(t, formulas(), "f\x03"+most+"p")
		wantLittle(t, infinite(), "w"+most+"\x00")
		wantLittle(t, infinite(), "w\x00"+most+"\x00")
		wantLittle(t, machines(), "m"+most+"\x01p")
		wantLittle(t, machines(), "m\x00"+most+"\x03\x00")
		wantLittle(t, machines(), "m\x1e"+strings.Repeat("\x01p", 30)+"\x01\x03\x00")
		wantLittle(t, automata(), "b"+most+"\x01p")
		wantLittle(t, automata(), "b\x00\x01"+most+"\x00")
		wantLittle(t, automata(), "b\x00\x01\x00"+most+"\x00")
		wantLittle(t, automata(), "b\x00\x01\x00\x00"+most+"\x00")
	}
}
