package bits

// Work is numbers that wait, none of them twice at one time.
type Work struct {
	waiting *Set
	ring    []int // room for each number once: no more can wait
	head    int   // where in the ring the one stands that waits longest
	count   int
}

// NewWork is one for numbers below n; nil, if n is not 0 to 65536.
func NewWork(n int) *Work {
	if !goodWidth(n) {
		return nil
	}
	return &Work{waiting: New(n), ring: make([]int, n)}
}

// Push puts a number at the end, if it does not wait; whether it did.
func (w *Work) Push(i int) bool {
	if !w.waiting.inside(i) || w.waiting.Has(i) {
		return false
	}
	w.waiting.Put(i)
	w.ring[(w.head+w.count)%len(w.ring)] = i
	w.count++
	return true
}

// Pop takes the one that waits longest.
func (w *Work) Pop() (int, bool) {
	if w.count == 0 {
		return 0, false
	}
	i := w.ring[w.head]
	w.waiting.Cut(i)
	w.head = (w.head + 1) % len(w.ring)
	w.count--
	return i, true
}

// Len is how many wait.
func (w *Work) Len() int { return w.count }
