package codec_test

import (
	"encoding/binary"
	"math"
	"slices"

	"augur/api"
	"augur/buchi"
	"augur/codec"
	"augur/moore"
	"augur/tree"
	"augur/words"
)

// kind is what the tests know of a kind of things.
type kind[T any] struct {
	name  string
	which byte
	write func(T) ([]byte, api.Errno)
	read  func([]byte) (T, api.Errno, int)
	parts func(T) []byte // by hand
	hand  func(*hand) T
	may   func(T) bool
	same  func(a, b T) bool
}

func formulas() kind[api.Formula] {
	return kind[api.Formula]{"formula", 'f', codec.Formula, codec.ReadFormula, formulaParts, (*hand).formula,
		func(f api.Formula) bool { return tree.Right(f) == api.OK || tree.RightPast(f) == api.OK },
		func(a, b api.Formula) bool { return tree.Cmp(a, b) == 0 }}
}

func infinite() kind[api.Word] {
	return kind[api.Word]{"word", 'w', codec.Word, codec.ReadWord, wordParts, (*hand).word,
		func(w api.Word) bool { return words.Check(w, 8) == api.OK },
		func(a, b api.Word) bool { return slices.Equal(a.Stem, b.Stem) && slices.Equal(a.Loop, b.Loop) }}
}

func machines() kind[api.Moore] {
	return kind[api.Moore]{"machine", 'm', codec.Moore, codec.ReadMoore, machineParts, (*hand).machine,
		func(m api.Moore) bool { return moore.Check(m) == api.OK },
		func(a, b api.Moore) bool {
			return slices.Equal(a.Props, b.Props) && slices.Equal(a.Out, b.Out) && slices.EqualFunc(a.Next, b.Next, slices.Equal)
		}}
}

func automata() kind[api.Buchi] {
	return kind[api.Buchi]{"automaton", 'b', codec.Buchi, codec.ReadBuchi, automatonParts, (*hand).automaton,
		func(a api.Buchi) bool { return buchi.Check(a) == api.OK },
		func(a, b api.Buchi) bool {
			return slices.Equal(a.Props, b.Props) && a.States == b.States && slices.Equal(a.Init, b.Init) && slices.Equal(a.Edges, b.Edges) && slices.Equal(a.Final, b.Final)
		}}
}

// record is a thing's by hand.
func (k kind[T]) record(thing T) []byte {
	return sealed(string(append([]byte{k.which}, k.parts(thing)...)))
}

func putNumbers[N int | uint16](b []byte, list ...N) []byte {
	for _, n := range list {
		b = binary.AppendUvarint(b, uint64(n))
	}
	return b
}

func putList[N int | uint16](b []byte, list []N) []byte {
	return putNumbers(binary.AppendUvarint(b, uint64(len(list))), list...)
}

func putNames(b []byte, names []string) []byte {
	b = putNumbers(b, len(names))
	for _, name := range names {
		b = append(putNumbers(b, len(name)), name...)
	}
	return b
}

// formulaParts goes through what stands in the formula in the order of tree.All.
func formulaParts(f api.Formula) []byte {
	var b []byte
	for _, g := range tree.All(f) {
		b = append(b, byte(g.Op))
		if g.Op == api.OpProp {
			b = append(putNumbers(b, len(g.Name)), g.Name...)
		}
	}
	return b
}

func wordParts(w api.Word) []byte { return putList(putList(nil, w.Stem), w.Loop) }

func machineParts(m api.Moore) []byte {
	b := putNumbers(putNames(nil, m.Props), len(m.Next))
	for i, out := range m.Out {
		b = putNumbers(append(b, byte(out)), m.Next[i]...)
	}
	return b
}

func automatonParts(a api.Buchi) []byte {
	b := putList(putNumbers(putNames(nil, a.Props), a.States), a.Init)
	b = putNumbers(b, len(a.Edges))
	for _, e := range a.Edges {
		b = putNumbers(b, e.From, e.To, int(e.Must), int(e.Not))
	}
	return putList(b, a.Final)
}

// hand reads bytes part by part by the chapter's words. It never gives up: behind the first part that is none it reads nothing more.
type hand struct {
	b     []byte
	at    int
	wrong bool
	parts []int // where parts begin
}

// byte is the one that comes next, if that is from least to most.
func (h *hand) byte(least, most byte) byte {
	if h.wrong {
		return 0
	}
	h.parts = append(h.parts, h.at)
	if h.at >= len(h.b) || h.b[h.at] < least || h.b[h.at] > most {
		h.wrong = true
		return 0
	}
	h.at++
	return h.b[h.at-1]
}

func (h *hand) number(most uint64) int {
	if h.wrong {
		return 0
	}
	h.parts = append(h.parts, h.at)
	value, length := binary.Uvarint(h.b[h.at:])
	if length <= 0 || value > most || len(binary.AppendUvarint(nil, value)) != length {
		h.wrong = true
		return 0
	}
	h.at += length
	return int(value)
}

func (h *hand) name() string {
	length := h.number(4294967295)
	if h.wrong {
		return ""
	}
	h.parts = append(h.parts, h.at)
	isNone := func(b byte) bool { return b < 0x20 || b > 0x7e || b == '"' || b == '\\' }
	if length < 1 || length > 32 || h.at+length > len(h.b) || slices.ContainsFunc(h.b[h.at:h.at+length], isNone) {
		h.wrong = true
		return ""
	}
	h.at += length
	return string(h.b[h.at-length : h.at])
}

func (h *hand) names() []string {
	var names []string
	for left := h.number(4294967295); left > 0 && !h.wrong; left-- {
		names = append(names, h.name())
	}
	return names
}

func (h *hand) states() []int {
	var list []int
	for left := h.number(4294967295); left > 0 && !h.wrong; left-- {
		list = append(list, h.number(4294967295))
	}
	return list
}

func (h *hand) letters() []uint16 {
	var list []uint16
	for left := h.number(4294967295); left > 0 && !h.wrong; left-- {
		list = append(list, uint16(h.number(65535)))
	}
	return list
}

// kidsOf is with how many kids an Op is a formula.
func kidsOf(op api.Op) int {
	for kids := range 3 {
		f := api.Formula{Op: op, Kids: slices.Repeat([]api.Formula{{Op: api.OpTrue}}, kids)}
		if op != api.OpProp && (tree.Right(f) == api.OK || tree.RightPast(f) == api.OK) {
			return kids
		}
	}
	return 0
}

// formula reads a row of Ops, and lays it together from its end on.
func (h *hand) formula() api.Formula {
	var row []api.Formula
	for wait := []int{1}; len(wait) > 0 && !h.wrong; {
		depth := wait[len(wait)-1]
		wait = wait[:len(wait)-1]
		if depth > 100 || len(row) == 1000 {
			h.parts = append(h.parts, h.at)
			h.wrong = true
			break
		}
		f := api.Formula{Op: api.Op(h.byte(1, 21))}
		if f.Op == api.OpProp {
			f.Name = h.name()
		}
		row = append(row, f)
		wait = append(wait, slices.Repeat([]int{depth + 1}, kidsOf(f.Op))...)
	}
	if h.wrong {
		return api.Formula{}
	}
	var done []api.Formula
	for _, f := range slices.Backward(row) {
		n := kidsOf(f.Op)
		f.Kids = slices.Clone(done[len(done)-n:])
		slices.Reverse(f.Kids)
		done = append(done[:len(done)-n], f)
	}
	return done[0]
}

func (h *hand) word() api.Word {
	stem := h.letters()
	return api.Word{Stem: stem, Loop: h.letters()}
}

func (h *hand) machine() api.Moore {
	m := api.Moore{Props: h.names()}
	for left := h.number(4294967295); left > 0 && !h.wrong; left-- {
		m.Out = append(m.Out, api.Verdict(h.byte(1, 3)))
		var next []int
		for letter := 0.0; letter < math.Pow(2, float64(len(m.Props))) && !h.wrong; letter++ {
			next = append(next, h.number(4294967295))
		}
		m.Next = append(m.Next, next)
	}
	return m
}

func (h *hand) automaton() api.Buchi {
	a := api.Buchi{Props: h.names(), States: h.number(4294967295), Init: h.states()}
	for left := h.number(4294967295); left > 0 && !h.wrong; left-- {
		e := api.Edge{From: h.number(4294967295), To: h.number(4294967295)}
		e.Must = uint16(h.number(65535))
		e.Not = uint16(h.number(65535))
		a.Edges = append(a.Edges, e)
	}
	a.Final = h.states()
	return a
}

// byHand is what is to be told of bytes; and where its parts begin, the sum with them.
func (k kind[T]) byHand(b []byte) (thing T, err api.Errno, at int, parts []int) {
	var none T
	h := &hand{b: b}
	h.byte(k.which, k.which)
	thing = k.hand(h)
	if h.wrong {
		return none, api.ErrCodecForm, h.at, h.parts
	}
	parts = append(h.parts, h.at)
	whole := sealed(string(b[:h.at]))
	switch {
	case len(b) < len(whole) || string(b[:len(whole)]) != string(whole):
		return none, api.ErrCodecForm, h.at, parts
	case len(b) > len(whole):
		return none, api.ErrCodecForm, len(whole), parts
	case !k.may(thing):
		return none, api.ErrCodecForm, 0, parts
	}
	return thing, api.OK, 0, parts
}
