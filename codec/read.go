package codec

import (
	"bytes"
	"math"

	"augur/api"
	"augur/tree"
)

// longest is how many bytes a number may have: seven bits of each are enough for
// the greatest one.
const longest = 5

// kidsOf has for each Op how many kids it has.
var kidsOf = [...]uint8{
	api.OpTrue:     0,
	api.OpFalse:    0,
	api.OpProp:     0,
	api.OpNot:      1,
	api.OpAnd:      2,
	api.OpOr:       2,
	api.OpImp:      2,
	api.OpIff:      2,
	api.OpNext:     1,
	api.OpEvent:    1,
	api.OpAlways:   1,
	api.OpUntil:    2,
	api.OpRelease:  2,
	api.OpWeak:     2,
	api.OpStrong:   2,
	api.OpYest:     1,
	api.OpWeakYest: 1,
	api.OpOnce:     1,
	api.OpHist:     1,
	api.OpSince:    2,
	api.OpTrig:     2,
}

// reader is bytes, read as far as at. It goes on behind a part only when it is
// there whole, and is one: so, where it gives up, at is the place of what is
// wrong.
type reader struct {
	bytes []byte
	at    int
	ops   int // how many were read
}

// giveUp leaves all of the reading; the face catches it.
func (r *reader) giveUp() { panic(api.ErrCodecForm) }

// within reads a byte that lies between two, these with it.
func (r *reader) within(least, most byte) byte {
	if r.at == len(r.bytes) || r.bytes[r.at] < least || r.bytes[r.at] > most {
		r.giveUp()
	}
	r.at++
	return r.bytes[r.at-1]
}

// number reads one that is not above a bound.
func (r *reader) number(most uint64) uint64 {
	value, length := uint64(0), 0
	for more := true; more; length++ {
		if length == longest || r.at+length == len(r.bytes) {
			r.giveUp()
		}
		group := r.bytes[r.at+length]
		value |= uint64(group&0x7f) << (7 * length)
		more = group&0x80 != 0
	}
	// If the last group adds nothing, the number needs fewer bytes.
	if value > most || length > 1 && value>>(7*(length-1)) == 0 {
		r.giveUp()
	}
	r.at += length
	return value
}

// count reads how many there are of something.
func (r *reader) count() uint64 { return r.number(math.MaxUint32) }

func (r *reader) state() int { return int(r.number(math.MaxUint32)) }

func (r *reader) letter() uint16 { return uint16(r.number(math.MaxUint16)) }

// name reads a text: all texts that there are in records are names.
func (r *reader) name() string {
	length := r.count()
	rest := r.bytes[r.at:]
	if length > api.MaxName || length > uint64(len(rest)) || !isName(string(rest[:length])) {
		r.giveUp()
	}
	r.at += int(length)
	return string(rest[:length])
}

// isName tells whether a text is a name: an OpProp has nothing else that could
// be wrong.
func isName(text string) bool {
	return tree.Right(api.Formula{Op: api.OpProp, Name: text}) == api.OK
}

// list reads a list of things, each as it is told how.
func list[T any](r *reader, read func(*reader) T) []T { return row(r, r.count(), read) }

// row reads so many things, one behind the other. How many there are said to be
// is not to be trusted: room is made for those alone that are there.
func row[T any](r *reader, count uint64, read func(*reader) T) []T {
	var things []T
	for range count {
		things = append(things, read(r))
	}
	return things
}

// formula reads one that stands so deep in the whole.
func (r *reader) formula(depth int) api.Formula {
	f := api.Formula{Op: r.op(depth)}
	if f.Op == api.OpProp {
		f.Name = r.name()
	}
	f.Kids = row(r, uint64(kidsOf[f.Op]), func(r *reader) api.Formula { return r.formula(depth + 1) })
	return f
}

func (r *reader) op(depth int) api.Op {
	if depth > api.MaxDepth || r.ops == api.MaxNodes {
		r.giveUp()
	}
	r.ops++
	return api.Op(r.within(byte(api.OpTrue), byte(api.OpTrig)))
}

func (r *reader) word() api.Word {
	stem := list(r, (*reader).letter)
	return api.Word{Stem: stem, Loop: list(r, (*reader).letter)}
}

func (r *reader) machine() api.Moore {
	m := api.Moore{Props: list(r, (*reader).name)}
	// The names may be far too many. Then their letters are more than there are
	// bytes, and not none, which they would come to be if all names counted.
	letters := uint64(1) << min(len(m.Props), 63)
	m.Next = list(r, func(r *reader) []int {
		m.Out = append(m.Out, r.verdict())
		return row(r, letters, (*reader).state)
	})
	return m
}

func (r *reader) verdict() api.Verdict {
	return api.Verdict(r.within(byte(api.True), byte(api.Inconclusive)))
}

func (r *reader) automaton() api.Buchi {
	var a api.Buchi
	a.Props = list(r, (*reader).name)
	a.States = r.state()
	a.Init = list(r, (*reader).state)
	a.Edges = list(r, (*reader).edge)
	a.Final = list(r, (*reader).state)
	return a
}

func (r *reader) edge() api.Edge {
	var e api.Edge
	e.From, e.To = r.state(), r.state()
	e.Must, e.Not = r.letter(), r.letter()
	return e
}

// sum reads that of all bytes ahead.
func (r *reader) sum() {
	if !bytes.HasPrefix(r.bytes[r.at:], appendSum(nil, Digest(r.bytes[:r.at]))) {
		r.giveUp()
	}
	r.at += sumBytes
}

// end gives up if there is more.
func (r *reader) end() {
	if r.at < len(r.bytes) {
		r.giveUp()
	}
}
