package codec_test

import (
	"bytes"
	"hash/fnv"
	"reflect"
	"slices"
	"strings"
	"testing"

	"augur/api"
	"augur/codec"
)

// The calls as the chapter lists them.
var (
	_ func(api.Formula) ([]byte, api.Errno)      = codec.Formula
	_ func([]byte) (api.Formula, api.Errno, int) = codec.ReadFormula
	_ func(api.Word) ([]byte, api.Errno)         = codec.Word
	_ func([]byte) (api.Word, api.Errno, int)    = codec.ReadWord
	_ func(api.Moore) ([]byte, api.Errno)        = codec.Moore
	_ func([]byte) (api.Moore, api.Errno, int)   = codec.ReadMoore
	_ func(api.Buchi) ([]byte, api.Errno)        = codec.Buchi
	_ func([]byte) (api.Buchi, api.Errno, int)   = codec.ReadBuchi
	_ func([]byte) uint64                        = codec.Digest
)

func TestNumbers(t *testing.T) {
	if api.OK != 0 || api.ErrCodecForm != 150 {
		t.Errorf("%d, %d", api.OK, api.ErrCodecForm)
	}
}

// fnvSum is the library's sum of that name, which is Digest's.
func fnvSum(b []byte) uint64 {
	h := fnv.New64a()
	h.Write(b)
	return h.Sum64()
}

// sealed are parts and their sum.
func sealed(parts string) []byte {
	b := []byte(parts)
	sum := fnvSum(b)
	for i := range 8 {
		b = append(b, byte(sum>>(8*i)))
	}
	return b
}

func prop(name string) api.Formula { return api.Formula{Op: api.OpProp, Name: name} }

func with(op api.Op, kids ...api.Formula) api.Formula { return api.Formula{Op: op, Kids: kids} }

func names8() []string { return strings.Split("a b c d e f g h", " ") }

// draw are numbers that look as if nobody knew them, always the same.
type draw uint32

func (d *draw) below(n int) int {
	*d = *d*1664525 + 1013904223
	return int(*d>>8) % n
}

// wantForm wants those bytes of a thing, and the thing of those bytes.
func wantForm[T any](t *testing.T, k kind[T], thing T, want []byte) {
	t.Helper()
	got, err := k.write(thing)
	if err != api.OK || !bytes.Equal(got, want) {
		t.Errorf("%s: the record of %+v: %x, %v, want %x", k.name, thing, got, err, want)
	}
	back, err, at := k.read(want)
	if err != api.OK || at != 0 || !k.same(back, thing) {
		t.Errorf("%s: %x is read as %+v, %v, %d, want %+v", k.name, want, back, err, at, thing)
	}
}

// wantNone wants these bytes to be no record, by what is wrong at that place.
func wantNone[T any](t *testing.T, k kind[T], b []byte, want int) {
	t.Helper()
	thing, err, at := k.read(b)
	if err != api.ErrCodecForm || at != want || !reflect.ValueOf(thing).IsZero() {
		t.Errorf("%s: %.200x is read as %+v, %v, %d, want the place %d", k.name, b, thing, err, at, want)
	}
}

// wantRefused wants a thing not to be written.
func wantRefused[T any](t *testing.T, k kind[T], why string, thing T) {
	t.Helper()
	if b, err := k.write(thing); err != api.ErrCodecForm || len(b) != 0 {
		t.Errorf("%s: %s: the record is %.200x, %v", k.name, why, b, err)
	}
}

// The chapter's examples.
func TestExamples(t *testing.T) {
	wantForm(t, formulas(), with(api.OpTrue), sealed("\x66\x01"))
	wantForm(t, formulas(), with(api.OpUntil, prop("p"), prop("q")), sealed("\x66\x0c\x03\x01p\x03\x01q"))
	word := api.Word{Stem: []uint16{44}, Loop: []uint16{0}}
	wantForm(t, infinite(), word, sealed("\x77\x01\x2c\x01\x00"))
	m := api.Moore{Next: [][]int{{0}}, Out: []api.Verdict{api.Inconclusive}}
	wantForm(t, machines(), m, sealed("\x6d\x00\x01\x03\x00"))
	wantNone(t, formulas(), nil, 0)
	wantNone(t, infinite(), nil, 0)
	wantNone(t, machines(), nil, 0)
	wantNone(t, automata(), nil, 0)
	wantNone(t, formulas(), []byte("\x66"), 1)
	wantNone(t, formulas(), []byte("\x66\x03\x81\x00\x70"), 2)
	wantNone(t, formulas(), sealed("\x66\x03\x81\x00\x70"), 2)
	wantNone(t, infinite(), sealed("\x77\x01\x2c\x00"), 0)
}

// The forms of the parts, byte by byte, the sum written out once.
func TestForms(t *testing.T) {
	b, err := codec.Formula(with(api.OpTrue))
	if want := []byte("\x66\x01\x08\x0d\x42\xb5\x07\x7b\x98\x08"); err != api.OK || !bytes.Equal(b, want) {
		t.Errorf("%x, %v, want %x", b, err, want)
	}
	wantForm(t, formulas(), with(api.OpFalse), sealed("\x66\x02"))
	wantForm(t, formulas(), prop("a b"), sealed("\x66\x03\x03a b"))
	wantForm(t, formulas(), with(api.OpSince, with(api.OpNot, prop("p")), with(api.OpHist, with(api.OpFalse))), sealed("\x66\x14\x04\x03\x01p\x13\x02"))
	wantForm(t, formulas(), with(api.OpImp, with(api.OpNext, prop("p")), with(api.OpAnd, with(api.OpTrue), prop("~"))), sealed("\x66\x07\x09\x03\x01p\x05\x01\x03\x01~"))
	wantForm(t, infinite(), api.Word{Loop: []uint16{7}}, sealed("\x77\x00\x01\x07"))
	wantForm(t, infinite(), api.Word{Stem: []uint16{127, 128}, Loop: []uint16{255, 0, 129}}, sealed("\x77\x02\x7f\x80\x01\x03\xff\x01\x00\x81\x01"))
	wantForm(t, infinite(), api.Word{Stem: []uint16{1, 1}, Loop: []uint16{1, 1}}, sealed("\x77\x02\x01\x01\x02\x01\x01")) // as it is, not its normal form
	two := api.Moore{Props: []string{"p", "long"}, Next: [][]int{{0, 1, 1, 0}, {1, 0, 1, 1}}, Out: []api.Verdict{1, 2}}
	wantForm(t, machines(), two, sealed("\x6d\x02\x01p\x04long\x02\x01\x00\x01\x01\x00\x02\x01\x00\x01\x01"))
	wantForm(t, automata(), api.Buchi{}, sealed("\x62\x00\x00\x00\x00\x00"))
	wantForm(t, automata(), api.Buchi{States: 65536}, sealed("\x62\x00\x80\x80\x04\x00\x00\x00"))
	a := api.Buchi{Props: []string{"p", "q"}, States: 200, Init: []int{0, 130}, Final: []int{128, 199},
		Edges: []api.Edge{{From: 0, To: 199, Must: 2, Not: 1}, {From: 199, To: 0, Must: 0, Not: 3}}}
	wantForm(t, automata(), a, sealed("\x62\x02\x01p\x01q\xc8\x01\x02\x00\x82\x01\x02\x00\xc7\x01\x02\x01\xc7\x01\x00\x00\x03\x02\x80\x01\xc7\x01"))
}

func TestDigest(t *testing.T) {
	for text, want := range map[string]uint64{"": 14695981039346656037, "a": 0xaf63dc4c8601ec8c, "foobar": 0x85944171f73967e8, "\x00": 0xaf63bd4c8601b7df} {
		if got := codec.Digest([]byte(text)); got != want {
			t.Errorf("Digest(%q) is %x, want %x", text, got, want)
		}
	}
	if codec.Digest(nil) != codec.Digest([]byte{}) {
		t.Error("nil and empty differ")
	}
	d := draw(1)
	for length := range 300 {
		b := make([]byte, length)
		for i := range b {
			b[i] = byte(d.below(256))
		}
		lent := slices.Clone(b)
		if got, want := codec.Digest(lent), fnvSum(b); got != want || !bytes.Equal(lent, b) {
			t.Fatalf("Digest(%x) is %x, want %x", b, got, want)
		}
		for i := range b {
			other := slices.Clone(b)
			other[i] ^= byte(1 + d.below(255))
			if codec.Digest(other) == codec.Digest(b) {
				t.Fatalf("%x and %x have one sum", b, other)
			}
		}
	}
}
