package codec

import "augur/api"

// sumBytes is how many bytes a sum has.
const sumBytes = 8

// appendNumber writes groups of seven bits, the lowest first.
func appendNumber(b []byte, n uint64) []byte {
	for n >= 0x80 {
		b = append(b, 0x80|byte(n))
		n >>= 7
	}
	return append(b, byte(n))
}

func appendState(b []byte, state int) []byte { return appendNumber(b, uint64(state)) }

func appendLetter(b []byte, letter uint16) []byte { return appendNumber(b, uint64(letter)) }

func appendText(b []byte, text string) []byte {
	return append(appendNumber(b, uint64(len(text))), text...)
}

func appendSum(b []byte, sum uint64) []byte {
	for range sumBytes {
		b = append(b, byte(sum))
		sum >>= 8
	}
	return b
}

// appendList writes a list of things, each as it is told how.
func appendList[T any](b []byte, list []T, write func([]byte, T) []byte) []byte {
	b = appendNumber(b, uint64(len(list)))
	for _, thing := range list {
		b = write(b, thing)
	}
	return b
}

func appendFormula(b []byte, f api.Formula) []byte {
	b = append(b, byte(f.Op))
	if f.Op == api.OpProp {
		b = appendText(b, f.Name)
	}
	for _, kid := range f.Kids {
		b = appendFormula(b, kid)
	}
	return b
}

func appendWord(b []byte, w api.Word) []byte {
	b = appendList(b, w.Stem, appendLetter)
	return appendList(b, w.Loop, appendLetter)
}

func appendMachine(b []byte, m api.Moore) []byte {
	b = appendList(b, m.Props, appendText)
	b = appendNumber(b, uint64(len(m.Out)))
	for state, out := range m.Out {
		b = append(b, byte(out))
		for _, to := range m.Next[state] {
			b = appendState(b, to)
		}
	}
	return b
}

func appendAutomaton(b []byte, a api.Buchi) []byte {
	b = appendList(b, a.Props, appendText)
	b = appendNumber(b, uint64(a.States))
	b = appendList(b, a.Init, appendState)
	b = appendList(b, a.Edges, appendEdge)
	return appendList(b, a.Final, appendState)
}

func appendEdge(b []byte, e api.Edge) []byte {
	b = appendState(appendState(b, e.From), e.To)
	return appendLetter(appendLetter(b, e.Must), e.Not)
}
