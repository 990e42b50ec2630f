package buchi

// numbering gives numbers to keys, from 0 on, as they come.
type numbering[K comparable] struct {
	numbers map[K]int
	keys    []K // by their numbers
}

// number is that of a key; of a new one the next.
func (n *numbering[K]) number(key K) int {
	at, known := n.numbers[key]
	if !known {
		at = len(n.keys)
		n.numbers[key] = at
		n.keys = append(n.keys, key)
	}
	return at
}
