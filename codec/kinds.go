package codec

import (
	"augur/api"
	"augur/buchi"
	"augur/moore"
	"augur/tree"
	"augur/words"
)

// kind is what there is to know of one kind of things.
type kind[T any] struct {
	which byte // the first one of a record
	write func([]byte, T) []byte
	read  func(*reader) T
	may   func(T) bool // whether a thing may be
}

func formulas() kind[api.Formula] {
	return kind[api.Formula]{
		which: 0x66,
		write: appendFormula,
		read:  func(r *reader) api.Formula { return r.formula(1) },
		may:   func(f api.Formula) bool { return tree.Right(f) == api.OK || tree.RightPast(f) == api.OK },
	}
}

func infinite() kind[api.Word] {
	return kind[api.Word]{
		which: 0x77,
		write: appendWord,
		read:  (*reader).word,
		may:   func(w api.Word) bool { return words.Check(w, api.MaxProps) == api.OK },
	}
}

func machines() kind[api.Moore] {
	return kind[api.Moore]{
		which: 0x6d,
		write: appendMachine,
		read:  (*reader).machine,
		may:   func(m api.Moore) bool { return moore.Check(m) == api.OK },
	}
}

func automata() kind[api.Buchi] {
	return kind[api.Buchi]{
		which: 0x62,
		write: appendAutomaton,
		read:  (*reader).automaton,
		may:   func(a api.Buchi) bool { return buchi.Check(a) == api.OK },
	}
}

// record is a thing as bytes.
func (k kind[T]) record(thing T) ([]byte, api.Errno) {
	if !k.may(thing) {
		return nil, api.ErrCodecForm
	}
	parts := k.write([]byte{k.which}, thing)
	return appendSum(parts, Digest(parts)), api.OK
}

// thing is the one whose record b is.
func (k kind[T]) thing(b []byte) (thing T, err api.Errno, at int) {
	r := &reader{bytes: b}
	defer func() {
		if recover() != nil {
			var none T
			thing, err, at = none, api.ErrCodecForm, r.at
		}
	}()
	r.within(k.which, k.which)
	thing = k.read(r)
	r.sum()
	r.end()
	if !k.may(thing) {
		// Nothing of it is wrong by itself: so no place but the first is meant.
		r.at = 0
		r.giveUp()
	}
	return thing, api.OK, 0
}
