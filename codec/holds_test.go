package codec_test

import (
	"bytes"
	"reflect"
	"slices"
	"testing"

	"augur/api"
)

// wantByHand wants bytes to be read as they are by hand; and what is read to be written as the bytes. It tells whether they were a record.
func wantByHand[T any](t *testing.T, k kind[T], b []byte) bool {
	t.Helper()
	want, wantErr, wantAt, _ := k.byHand(b)
	got, err, at := k.read(b)
	if err != wantErr || at != wantAt || err == api.OK && !k.same(got, want) || err != api.OK && !reflect.ValueOf(got).IsZero() {
		t.Fatalf("%s: %.300x is read as %+v, %v, %d, want %+v, %v, %d", k.name, b, got, err, at, want, wantErr, wantAt)
	}
	if err != api.OK {
		return false
	}
	if back, err := k.write(got); err != api.OK || !bytes.Equal(back, b) {
		t.Fatalf("%s: %.300x is read, but written as %.300x, %v", k.name, b, back, err)
	}
	return true
}

// short goes through the rows of so many bytes at most of an alphabet, behind a first one.
func short(which byte, alphabet string, length int, use func(parts []byte)) {
	var grow func(parts []byte)
	grow = func(parts []byte) {
		use(parts)
		if len(parts) > length {
			return
		}
		for i := range len(alphabet) {
			grow(append(slices.Clip(parts), alphabet[i]))
		}
	}
	grow([]byte{which})
}

// wantShort wants all short parts to be read as they are by hand, as they are and with their sum.
func wantShort[T any](t *testing.T, k kind[T], alphabet string, length int) {
	t.Helper()
	right, wrong := 0, 0
	short(k.which, alphabet, length, func(parts []byte) {
		if wantByHand(t, k, parts) {
			t.Fatalf("%s: %x is one without a sum", k.name, parts)
		}
		if wantByHand(t, k, sealed(string(parts))) {
			right++
		} else {
			wrong++
		}
	})
	if right < 20 || wrong < 20 {
		t.Errorf("%s: of short ones %d are right, %d wrong", k.name, right, wrong)
	}
}

// ONE FORM: of all short bytes those that are read are written as they were; of the others the place is the one that is found by hand.
func TestShort(t *testing.T) {
	wantShort(t, formulas(), "\x00\x01\x03\x04\x05\x09\x10\x14\x16p\x81", 4)
	wantShort(t, formulas(), "\x01\x02\x03\x0cp\x15", 6)
	wantShort(t, infinite(), "\x00\x01\x02\x03\x7f\x80\x81\xff", 5)
	wantShort(t, machines(), "\x00\x01\x02\x03\x04\x80", 6)
	wantShort(t, machines(), "\x00\x01\x02p", 8)
	wantShort(t, automata(), "\x00\x01\x02\x80", 8)
	wantShort(t, automata(), "\x00\x01p\x02", 8)
}

// someFormulas are a few, small and greater; so are those of the other kinds.
func someFormulas() []api.Formula {
	d := draw(11)
	list := []api.Formula{with(api.OpTrue), prop("p"), with(api.OpUntil, prop("p"), prop("q")), chain(api.OpHist, 100), broad(api.OpIff, 60)}
	for range 6 {
		list = append(list, d.formula(5, false), d.formula(5, true))
	}
	return list
}

func someWords() []api.Word {
	d := draw(12)
	list := []api.Word{{Loop: []uint16{0}}, {Stem: []uint16{44}, Loop: []uint16{0}}, {Stem: d.letters(130, 8), Loop: d.letters(3, 8)}}
	for range 10 {
		list = append(list, d.word(6))
	}
	return list
}

func someMachines() []api.Moore {
	d := draw(13)
	list := []api.Moore{{Next: [][]int{{0}}, Out: []api.Verdict{3}}, {Props: []string{"p"}, Next: [][]int{{0, 1}, {1, 1}}, Out: []api.Verdict{3, 2}}}
	for range 10 {
		list = append(list, d.machine(5, 3))
	}
	return append(list, d.machine(60, 1))
}

func someAutomata() []api.Buchi {
	d := draw(14)
	list := []api.Buchi{{}, {Props: []string{"p"}, States: 1, Init: []int{0}, Final: []int{0}, Edges: []api.Edge{{Must: 1}}}}
	for range 6 {
		list = append(list, d.automaton(4, 2), d.automaton(3000, 8))
	}
	return list
}

// wantAlone wants a record to be none when one byte of it is another one, when it is shorter, and with something behind it.
func wantAlone[T any](t *testing.T, k kind[T], thing T) {
	t.Helper()
	b, err := k.write(thing)
	if err != api.OK || !wantByHand(t, k, b) {
		t.Fatalf("%s: %+v: %v", k.name, thing, err)
	}
	for length := range b {
		if wantByHand(t, k, b[:length]) {
			t.Fatalf("%s: %x is one without its end at %d", k.name, b, length)
		}
	}
	for i, was := range b {
		for other := range 256 {
			if b[i] = byte(other); b[i] != was && wantByHand(t, k, b) {
				t.Fatalf("%s: %x is one too", k.name, b)
			}
		}
		b[i] = was
	}
	for more := range 256 {
		wantNone(t, k, append(slices.Clip(b), byte(more)), len(b))
	}
	wantNone(t, k, append(slices.Clip(b), b...), len(b))
}

func TestAlone(t *testing.T) {
	for _, f := range someFormulas() {
		wantAlone(t, formulas(), f)
	}
	for _, w := range someWords() {
		wantAlone(t, infinite(), w)
	}
	for _, m := range someMachines() {
		wantAlone(t, machines(), m)
	}
	for _, a := range someAutomata() {
		wantAlone(t, automata(), a)
	}
}

// wantResealed wants what comes of a record, when a part of it is changed, cut out or put in, and the sum is right again, to be read as it is by hand.
func wantResealed[T any](t *testing.T, k kind[T], thing T) {
	t.Helper()
	b := k.record(thing)
	_, _, _, places := k.byHand(b)
	parts := string(b[:len(b)-8])
	for _, at := range places {
		if at == len(parts) {
			continue
		}
		for _, by := range []string{"", "\x00", "\x01", "\x02", "\x03", "\x04", "\x05", "\x09", "\x10", "\x16", "p", "\x7f", "\x80", "\x81\x00", "\x80\x01", "\x80\x02", "\xff\xff\x03", "\x80\x80\x04", "\xff\xff\xff\xff\x0f", "\x80\x80\x80\x80\x10", "\x01p", "\x02\"p"} {
			wantByHand(t, k, sealed(parts[:at]+by+parts[at:]))
			wantByHand(t, k, sealed(parts[:at]+by+parts[at+1:]))
			wantByHand(t, k, []byte(parts[:at]+by+parts[at+1:]))
		}
	}
}

func TestResealed(t *testing.T) {
	for _, f := range someFormulas() {
		wantResealed(t, formulas(), f)
	}
	for _, w := range someWords() {
		wantResealed(t, infinite(), w)
	}
	for _, m := range someMachines() {
		wantResealed(t, machines(), m)
	}
	for _, a := range someAutomata() {
		wantResealed(t, automata(), a)
	}
}

// Whatever the bytes are, a call ends, and tells what is told by hand.
func TestDrawn(t *testing.T) {
	d := draw(15)
	for range 20000 {
		b := make([]byte, d.below(40))
		for i := range b {
			b[i] = byte(d.below([]int{4, 8, 32, 256}[d.below(4)]))
		}
		if len(b) > 0 {
			b[0] = "fwmb"[d.below(4)]
		}
		for _, x := range [][]byte{b, sealed(string(b))} {
			wantByHand(t, formulas(), x)
			wantByHand(t, infinite(), x)
			wantByHand(t, machines(), x)
			wantByHand(t, automata(), x)
		}
	}
}

// A record of one kind is none of another.
func TestKindsApart(t *testing.T) {
	for _, b := range [][]byte{formulas().record(someFormulas()[0]), infinite().record(someWords()[0]), machines().record(someMachines()[0]), automata().record(someAutomata()[0])} {
		read := 0
		for _, is := range []bool{wantByHand(t, formulas(), b), wantByHand(t, infinite(), b), wantByHand(t, machines(), b), wantByHand(t, automata(), b)} {
			if is {
				read++
			}
		}
		if read != 1 {
			t.Errorf("%x is read as %d kinds", b, read)
		}
	}
}
