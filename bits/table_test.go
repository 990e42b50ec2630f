package bits_test

import (
	"math"
	"testing"

	"augur/bits"
)

func wantIntern(t *testing.T, b *bits.Table, s *bits.Set, number int, fresh bool) {
	t.Helper()
	if n, f := b.Intern(s); n != number || f != fresh {
		t.Errorf("Intern of %v, width %d: %d, %v, want %d, %v", list(s), s.Width(), n, f, number, fresh)
	}
}

func TestNewTable(t *testing.T) {
	for _, w := range widths {
		b := bits.NewTable(w)
		if b == nil {
			t.Fatalf("NewTable(%d) is nil", w)
		}
		if b.Len() != 0 || b.At(0) != nil || b.Find(bits.New(w)) != -1 {
			t.Errorf("NewTable(%d) has a set", w)
		}
		wantIntern(t, b, full(w), 0, true)
		wantIntern(t, b, full(w), 0, false)
	}
	for _, w := range badWidths {
		if bits.NewTable(w) != nil {
			t.Errorf("NewTable(%d) is not nil", w)
		}
	}
}

// Example 2 of the chapter.
func TestTablesExample(t *testing.T) {
	b := bits.NewTable(10)
	s := bits.Of(10, 3, 7, 3, 12)
	wantIntern(t, b, s, 0, true)
	wantIntern(t, b, s, 0, false)
	wantIntern(t, b, bits.New(10), 1, true)
	wantIntern(t, b, bits.New(9), -1, false)
}

// Widths of which the keys have as many bytes, so that only the width tells them apart.
func TestOtherWidths(t *testing.T) {
	b := bits.NewTable(10)
	wantIntern(t, b, bits.Of(10, 1), 0, true)
	for _, w := range []int{0, 2, 9, 11, 16, 65536} {
		wantIntern(t, b, bits.Of(w, 1), -1, false)
		wantIntern(t, b, bits.New(w), -1, false)
		if b.Find(bits.Of(w, 1)) != -1 {
			t.Errorf("Find of a set of width %d", w)
		}
	}
	if b.Len() != 1 {
		t.Errorf("Len %d", b.Len())
	}
	wantIntern(t, b, bits.New(10), 1, true)
}

func TestFind(t *testing.T) {
	b := bits.NewTable(70)
	b.Intern(bits.Of(70, 69))
	b.Intern(bits.New(70))
	if b.Find(bits.Of(70, 69)) != 0 || b.Find(bits.New(70)) != 1 {
		t.Errorf("Find of what came: %d, %d", b.Find(bits.Of(70, 69)), b.Find(bits.New(70)))
	}
	if b.Find(bits.Of(70, 68)) != -1 || b.Len() != 2 {
		t.Errorf("Find of what did not come")
	}
	wantIntern(t, b, bits.Of(70, 68), 2, true)
}

// A table's numbers are 0 up to its Len, each of another set; At of Intern is the set.
func TestNumbersOfATable(t *testing.T) {
	const width = 130
	b := bits.NewTable(width)
	set := func(i int) *bits.Set { return bits.Of(width, i, i*7%width, i*i%width) }
	var kept []*bits.Set
	for round := range 2 {
		for i := range width {
			s := set(i)
			known := b.Find(s)
			n, fresh := b.Intern(s)
			if fresh {
				if known != -1 || n != len(kept) || round == 1 {
					t.Fatalf("%d: Find %d, Intern %d", i, known, n)
				}
				kept = append(kept, s)
			}
			if !fresh && (known != n || n < 0 || n >= len(kept)) {
				t.Fatalf("%d: Find %d, Intern %d", i, known, n)
			}
			if !b.At(n).Same(s) || b.Find(s) != n || b.Len() != len(kept) {
				t.Fatalf("%d: At(%d) %v, Len %d", i, n, list(b.At(n)), b.Len())
			}
		}
	}
	for i, s := range kept {
		for k := range i {
			if kept[k].Same(s) {
				t.Errorf("%d and %d are the same", k, i)
			}
		}
	}
	for _, i := range []int{math.MinInt, -1, b.Len(), b.Len() + 1, math.MaxInt} {
		if b.At(i) != nil {
			t.Errorf("At(%d) is not nil", i)
		}
	}
}

// R2: what is handed in is neither changed nor kept, and what comes out is new.
func TestTableKeepsACopy(t *testing.T) {
	b := bits.NewTable(10)
	s := bits.Of(10, 3, 7)
	b.Intern(s)
	wantList(t, "s behind Intern", s, 3, 7)
	s.Put(1)
	wantList(t, "At behind a Put", b.At(0), 3, 7)
	if b.Find(s) != -1 || b.Find(bits.Of(10, 3, 7)) != 0 {
		t.Errorf("Find behind a Put: %d, %d", b.Find(s), b.Find(bits.Of(10, 3, 7)))
	}
	wantIntern(t, b, s, 1, true)
	s.Less(s)
	x, y := b.At(1), b.At(1)
	x.Cut(3)
	wantList(t, "another At", y, 1, 3, 7)
	wantList(t, "At again", b.At(1), 1, 3, 7)
	wantList(t, "s", s)
}

// R4: tables know nothing of one another.
func TestTwoTables(t *testing.T) {
	a, b := bits.NewTable(10), bits.NewTable(10)
	wantIntern(t, a, bits.Of(10, 1), 0, true)
	wantIntern(t, a, bits.Of(10, 2), 1, true)
	wantIntern(t, b, bits.Of(10, 2), 0, true)
	if a.Len() != 2 || b.Len() != 1 || b.Find(bits.Of(10, 1)) != -1 {
		t.Errorf("Len %d, %d", a.Len(), b.Len())
	}
}
