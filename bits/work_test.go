package bits_test

import (
	"math"
	"testing"

	"augur/bits"
)

func wantPop(t *testing.T, w *bits.Work, want int, is bool) {
	t.Helper()
	if i, ok := w.Pop(); i != want || ok != is {
		t.Errorf("Pop: %d, %v, want %d, %v", i, ok, want, is)
	}
}

func wantPush(t *testing.T, w *bits.Work, i int, want bool) {
	t.Helper()
	if w.Push(i) != want {
		t.Errorf("Push(%d): %v", i, !want)
	}
}

func TestNewWork(t *testing.T) {
	for _, n := range widths {
		w := bits.NewWork(n)
		if w == nil {
			t.Fatalf("NewWork(%d) is nil", n)
		}
		if w.Len() != 0 {
			t.Errorf("NewWork(%d): %d wait", n, w.Len())
		}
		wantPop(t, w, 0, false)
		wantPush(t, w, n-1, n > 0)
		wantPush(t, w, n, false)
	}
	for _, n := range badWidths {
		if bits.NewWork(n) != nil {
			t.Errorf("NewWork(%d) is not nil", n)
		}
	}
}

// Example 3 of the chapter.
func TestWorkExample(t *testing.T) {
	w := bits.NewWork(3)
	wantPush(t, w, 2, true)
	wantPush(t, w, 0, true)
	wantPush(t, w, 2, false)
	wantPush(t, w, 3, false)
	wantPop(t, w, 2, true)
	wantPush(t, w, 2, true)
	wantPop(t, w, 0, true)
	wantPop(t, w, 2, true)
	wantPop(t, w, 0, false)
}

func TestPushOfWhatIsOutside(t *testing.T) {
	for _, n := range []int{0, 1, 3, 64, 65536} {
		w := bits.NewWork(n)
		for _, i := range []int{math.MinInt, -1, n, n + 1, math.MaxInt} {
			wantPush(t, w, i, false)
		}
		if w.Len() != 0 {
			t.Errorf("NewWork(%d): %d wait", n, w.Len())
		}
		wantPop(t, w, 0, false)
	}
}

func TestPushOfWhatWaits(t *testing.T) {
	w := bits.NewWork(5)
	for _, i := range []int{4, 1, 0} {
		wantPush(t, w, i, true)
		wantPush(t, w, i, false)
	}
	if w.Len() != 3 {
		t.Errorf("%d wait", w.Len())
	}
	wantPush(t, w, 4, false) // it keeps its place
	wantPop(t, w, 4, true)
	wantPush(t, w, 4, true) // behind all others
	wantPop(t, w, 1, true)
	wantPop(t, w, 0, true)
	wantPop(t, w, 4, true)
}

func TestPopOfNothing(t *testing.T) {
	w := bits.NewWork(2)
	wantPop(t, w, 0, false)
	wantPush(t, w, 1, true)
	wantPop(t, w, 1, true)
	for range 3 {
		wantPop(t, w, 0, false)
		if w.Len() != 0 {
			t.Errorf("%d wait", w.Len())
		}
	}
	wantPush(t, w, 1, true)
	wantPush(t, w, 0, true)
	wantPop(t, w, 1, true)
	wantPop(t, w, 0, true)
	wantPop(t, w, 0, false)
}

// All of them at one time, from each place on at which the first one may stand.
func TestAllWait(t *testing.T) {
	for _, n := range []int{1, 2, 7, 64, 65} {
		w := bits.NewWork(n)
		for turn := range 2*n + 1 {
			for i := range n {
				wantPush(t, w, (i*(n-1)+turn)%n, true)
			}
			wantPush(t, w, turn%n, false)
			if w.Len() != n {
				t.Fatalf("%d of %d wait", w.Len(), n)
			}
			for i := range n {
				wantPop(t, w, (i*(n-1)+turn)%n, true)
			}
			w.Push(0)
			w.Pop()
		}
	}
	big := bits.NewWork(65536)
	for i := range 65536 {
		wantPush(t, big, 65535-i, true)
	}
	for i := range 65536 {
		wantPop(t, big, 65535-i, true)
	}
}

// What waits goes as it came, none of it twice at one time: against a plain list.
func TestGoesAsItCame(t *testing.T) {
	const n = 11
	w := bits.NewWork(n)
	var line []int
	x := uint32(1)
	for range 20000 {
		x = x*1664525 + 1013904223
		i := int(x>>16)%(n+2) - 1
		if x>>31 == 0 {
			want, is := 0, len(line) > 0
			if is {
				want, line = line[0], line[1:]
			}
			wantPop(t, w, want, is)
		} else {
			free := i >= 0 && i < n
			for _, k := range line {
				free = free && k != i
			}
			wantPush(t, w, i, free)
			if free {
				line = append(line, i)
			}
		}
		if w.Len() != len(line) {
			t.Fatalf("%d wait, want %d", w.Len(), len(line))
		}
	}
}

// R4: they know nothing of one another.
func TestTwoWorks(t *testing.T) {
	a, b := bits.NewWork(3), bits.NewWork(3)
	wantPush(t, a, 1, true)
	wantPush(t, b, 1, true)
	wantPop(t, a, 1, true)
	wantPush(t, b, 1, false)
	wantPop(t, b, 1, true)
}
