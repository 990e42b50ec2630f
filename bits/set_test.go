package bits_test

import (
	"iter"
	"math"
	"slices"
	"testing"

	"augur/bits"
)

// The calls as the chapter lists them.
var (
	_ func(int) *bits.Set                      = bits.New
	_ func(int, ...int) *bits.Set              = bits.Of
	_ func(*bits.Set, int)                     = (*bits.Set).Put
	_ func(*bits.Set, int)                     = (*bits.Set).Cut
	_ func(*bits.Set, int) bool                = (*bits.Set).Has
	_ func(*bits.Set) int                      = (*bits.Set).Len
	_ func(*bits.Set) int                      = (*bits.Set).Width
	_ func(*bits.Set) int                      = (*bits.Set).First
	_ func(*bits.Set, int) int                 = (*bits.Set).After
	_ func(*bits.Set) iter.Seq[int]            = (*bits.Set).All
	_ func(*bits.Set, *bits.Set)               = (*bits.Set).And
	_ func(*bits.Set, *bits.Set)               = (*bits.Set).Or
	_ func(*bits.Set, *bits.Set)               = (*bits.Set).Less
	_ func(*bits.Set, *bits.Set) bool          = (*bits.Set).Same
	_ func(*bits.Set, *bits.Set) bool          = (*bits.Set).Within
	_ func(*bits.Set) *bits.Set                = (*bits.Set).Copy
	_ func(*bits.Set) string                   = (*bits.Set).Key
	_ func(int) *bits.Table                    = bits.NewTable
	_ func(*bits.Table, *bits.Set) int         = (*bits.Table).Find
	_ func(*bits.Table, int) *bits.Set         = (*bits.Table).At
	_ func(*bits.Table) int                    = (*bits.Table).Len
	_ func(int) *bits.Work                     = bits.NewWork
	_ func(*bits.Work, int) bool               = (*bits.Work).Push
	_ func(*bits.Work) (int, bool)             = (*bits.Work).Pop
	_ func(*bits.Work) int                     = (*bits.Work).Len
	_ func(*bits.Table, *bits.Set) (int, bool) = (*bits.Table).Intern
)

// The widths at which a word of 64 bits or a byte of a key begins or ends, and the least and greatest.
var widths = []int{0, 1, 7, 8, 9, 63, 64, 65, 127, 128, 129, 200, 65535, 65536}

var badWidths = []int{math.MinInt, -65536, -1, 65537, 1 << 20, math.MaxInt}

func list(s *bits.Set) []int { return slices.Collect(s.All()) }

func wantList(t *testing.T, what string, s *bits.Set, want ...int) {
	t.Helper()
	if got := list(s); !slices.Equal(got, want) {
		t.Errorf("%s: %v, want %v", what, got, want)
	}
}

func full(width int) *bits.Set {
	s := bits.New(width)
	for i := range width {
		s.Put(i)
	}
	return s
}

// every is the set of the multiples of step, from start on.
func every(width, start, step int) *bits.Set {
	s := bits.New(width)
	for i := start; i < width; i += step {
		s.Put(i)
	}
	return s
}

func TestNew(t *testing.T) {
	for _, w := range widths {
		s := bits.New(w)
		if s == nil {
			t.Fatalf("New(%d) is nil", w)
		}
		if s.Width() != w || s.Len() != 0 || s.First() != -1 || s.After(-1) != -1 || len(list(s)) != 0 {
			t.Errorf("New(%d): width %d, %v", w, s.Width(), list(s))
		}
	}
	for _, w := range badWidths {
		if bits.New(w) != nil {
			t.Errorf("New(%d) is not nil", w)
		}
	}
}

func TestOf(t *testing.T) {
	s := bits.Of(10, 3, 7, 3, 12)
	wantList(t, "Of(10, 3, 7, 3, 12)", s, 3, 7)
	if s.Len() != 2 || s.Width() != 10 {
		t.Errorf("Len %d, Width %d", s.Len(), s.Width())
	}
	wantList(t, "unsorted, with others outside", bits.Of(130, 129, 130, -1, 0, 64, 63, math.MaxInt, math.MinInt), 0, 63, 64, 129)
	wantList(t, "a width of 0", bits.Of(0, 0, 1, -1))
	wantList(t, "the greatest width", bits.Of(65536, 65535, 65536, 0), 0, 65535)
	for _, w := range badWidths {
		if bits.Of(w, 0, 1) != nil || bits.Of(w) != nil {
			t.Errorf("Of(%d) is not nil", w)
		}
	}
}

// R2 and R6: the list is neither changed nor kept; nil and empty are the same.
func TestOfAndItsList(t *testing.T) {
	l := []int{5, 1, 99, 5}
	s := bits.Of(10, l...)
	if !slices.Equal(l, []int{5, 1, 99, 5}) {
		t.Errorf("the list has become %v", l)
	}
	l[0], l[1] = 7, 8
	wantList(t, "the list changed behind Of", s, 1, 5)
	s.Put(9)
	if !slices.Equal(l, []int{7, 8, 99, 5}) {
		t.Errorf("the list has become %v", l)
	}
	var none []int
	if !bits.Of(10, none...).Same(bits.New(10)) || !bits.Of(10, []int{}...).Same(bits.New(10)) || !bits.Of(10).Same(bits.New(10)) {
		t.Errorf("no numbers, but some are there")
	}
}

func TestPutCutHas(t *testing.T) {
	for _, w := range widths {
		s := bits.New(w)
		for _, i := range []int{0, 1, 7, 8, 62, 63, 64, 65, 127, 128, 199, 65534, 65535} {
			inside := i < w
			s.Put(i)
			s.Put(i)
			if s.Has(i) != inside || s.Len() != btoi(inside) {
				t.Errorf("width %d: Put(%d): Has %v, Len %d", w, i, s.Has(i), s.Len())
			}
			if s.Has(i+64) || s.Has(i-1) || s.Has(i+1) {
				t.Errorf("width %d: Put(%d): others too: %v", w, i, list(s))
			}
			s.Cut(i)
			s.Cut(i)
			if s.Has(i) || s.Len() != 0 {
				t.Errorf("width %d: Cut(%d): Has %v, Len %d", w, i, s.Has(i), s.Len())
			}
		}
	}
}

func btoi(b bool) int {
	if b {
		return 1
	}
	return 0
}

func TestCutLeavesTheOthers(t *testing.T) {
	s := full(130)
	s.Cut(64)
	if s.Len() != 129 || s.Has(64) || !s.Has(0) || !s.Has(63) || !s.Has(65) || !s.Has(128) {
		t.Errorf("Cut(64) of a full set: %v", list(s))
	}
}

func TestNumbersOutside(t *testing.T) {
	for _, w := range widths {
		s := every(w, 0, 3)
		was := list(s)
		for _, i := range []int{-1, -64, -65, math.MinInt, w, w + 1, w + 63, w + 64, 65536, 65537, math.MaxInt} {
			s.Put(i)
			if s.Has(i) {
				t.Errorf("width %d has %d", w, i)
			}
			s.Cut(i)
			if !slices.Equal(list(s), was) || s.Width() != w || s.Len() != len(was) {
				t.Fatalf("width %d: Put or Cut of %d did something", w, i)
			}
		}
	}
}

func TestLen(t *testing.T) {
	for _, w := range widths {
		if full(w).Len() != w {
			t.Errorf("Len of the full set of width %d: %d", w, full(w).Len())
		}
		if n := every(w, 0, 2).Len(); n != (w+1)/2 {
			t.Errorf("Len of the even ones below %d: %d", w, n)
		}
	}
}

func TestFirstAfter(t *testing.T) {
	s := bits.Of(300, 3, 63, 64, 191, 299)
	for _, c := range []struct{ i, want int }{
		{math.MinInt, 3}, {-5, 3}, {-1, 3}, {0, 3}, {2, 3}, {3, 63}, {62, 63}, {63, 64}, {64, 191},
		{65, 191}, {128, 191}, {190, 191}, {191, 299}, {298, 299}, {299, -1}, {300, -1}, {319, -1},
		{320, -1}, {65536, -1}, {math.MaxInt - 1, -1}, {math.MaxInt, -1},
	} {
		if got := s.After(c.i); got != c.want {
			t.Errorf("After(%d): %d, want %d", c.i, got, c.want)
		}
	}
	if s.First() != 3 {
		t.Errorf("First: %d", s.First())
	}
	for _, i := range []int{math.MinInt, -1, 0, 63, 64, math.MaxInt} {
		if got := bits.New(0).After(i); got != -1 {
			t.Errorf("After(%d) of a width of 0: %d", i, got)
		}
		if got := bits.New(64).After(i); got != -1 {
			t.Errorf("After(%d) of no numbers: %d", i, got)
		}
	}
	top := bits.Of(65536, 65535)
	if top.First() != 65535 || top.After(65534) != 65535 || top.After(65535) != -1 {
		t.Errorf("the greatest number: %d, %d, %d", top.First(), top.After(65534), top.After(65535))
	}
}

// First and After go through what All goes through; Of of that is the set.
func TestAllRises(t *testing.T) {
	for _, w := range widths {
		for _, s := range []*bits.Set{bits.New(w), full(w), every(w, 0, 7), every(w, 63, 64), every(w, w-1, 1)} {
			var by []int
			for i := s.First(); i != -1; i = s.After(i) {
				by = append(by, i)
			}
			all := list(s)
			if !slices.Equal(by, all) || len(all) != s.Len() || !slices.IsSorted(all) {
				t.Fatalf("width %d: All %v, First and After %v", w, all, by)
			}
			for _, i := range all {
				if !s.Has(i) {
					t.Fatalf("width %d: All gives %d", w, i)
				}
			}
			if !bits.Of(w, all...).Same(s) {
				t.Fatalf("width %d: Of(%v) is another set", w, all)
			}
		}
	}
}

func TestAllLeftEarly(t *testing.T) {
	s := bits.Of(200, 1, 5, 70, 199)
	all := s.All()
	var got []int
	for i := range all {
		got = append(got, i)
		if i == 5 {
			break
		}
	}
	if !slices.Equal(got, []int{1, 5}) {
		t.Errorf("left at 5: %v", got)
	}
	calls := 0
	all(func(int) bool { calls++; return false })
	if calls != 1 {
		t.Errorf("%d calls behind a false", calls)
	}
	for range 2 {
		if got := slices.Collect(all); !slices.Equal(got, []int{1, 5, 70, 199}) {
			t.Errorf("again: %v", got)
		}
	}
}

func TestAllWithinItself(t *testing.T) {
	all := bits.Of(100, 2, 64, 99).All()
	var got []int
	for i := range all {
		for k := range all {
			got = append(got, 1000*i+k)
		}
	}
	want := []int{2002, 2064, 2099, 64002, 64064, 64099, 99002, 99064, 99099}
	if !slices.Equal(got, want) {
		t.Errorf("%v", got)
	}
}

func TestAllAndChanges(t *testing.T) {
	s := bits.Of(100, 2, 64, 99)
	all := s.All()
	s.Cut(2)
	s.Put(70)
	for range 2 {
		if got := slices.Collect(all); !slices.Equal(got, []int{2, 64, 99}) {
			t.Errorf("by what it had when All was called: %v", got)
		}
	}
	wantList(t, "All anew", s, 64, 70, 99)
	var got []int
	for i := range s.All() {
		got = append(got, i)
		s.Cut(99)
		s.Put(i + 1)
	}
	if !slices.Equal(got, []int{64, 70, 99}) {
		t.Errorf("changed on the way: %v", got)
	}
	wantList(t, "afterwards", s, 64, 65, 70, 71)
}

func TestAndOrLessOfOneWidth(t *testing.T) {
	a := func() *bits.Set { return bits.Of(130, 0, 1, 63, 64, 129) }
	o := bits.Of(130, 1, 2, 64, 128)
	s := a()
	s.And(o)
	wantList(t, "And", s, 1, 64)
	s = a()
	s.Or(o)
	wantList(t, "Or", s, 0, 1, 2, 63, 64, 128, 129)
	s = a()
	s.Less(o)
	wantList(t, "Less", s, 0, 63, 129)
	wantList(t, "o", o, 1, 2, 64, 128)
}

// Each pair of widths, against what Has says number by number.
func TestAndOrLessOfOtherWidths(t *testing.T) {
	for _, w := range []int{0, 1, 8, 63, 64, 65, 127, 128, 129, 200} {
		for _, v := range []int{0, 1, 8, 63, 64, 65, 127, 128, 129, 200, 65536} {
			s, o := every(w, 0, 2), every(v, 0, 3)
			and, or, less := s.Copy(), s.Copy(), s.Copy()
			and.And(o)
			or.Or(o)
			less.Less(o)
			for i := -1; i <= 260; i++ {
				if and.Has(i) != (s.Has(i) && o.Has(i)) {
					t.Fatalf("And of widths %d, %d at %d", w, v, i)
				}
				if or.Has(i) != (i >= 0 && i < w && (s.Has(i) || o.Has(i))) {
					t.Fatalf("Or of widths %d, %d at %d", w, v, i)
				}
				if less.Has(i) != (s.Has(i) && !o.Has(i)) {
					t.Fatalf("Less of widths %d, %d at %d", w, v, i)
				}
			}
			if and.Width() != w || or.Width() != w || less.Width() != w || !o.Same(every(v, 0, 3)) {
				t.Fatalf("widths %d, %d: a width, or o, is another one", w, v)
			}
		}
	}
}

// What Or lets by must not come back by any other call.
func TestOrLetsByWhatIsOutside(t *testing.T) {
	s := bits.Of(10, 9)
	s.Or(bits.Of(200, 0, 10, 63, 64, 150))
	wantList(t, "Or of a wider one", s, 0, 9)
	if s.Len() != 2 || s.After(9) != -1 || s.Key() != "\x01\x02" || !s.Same(bits.Of(10, 0, 9)) || !s.Within(bits.Of(10, 0, 9)) {
		t.Errorf("Len %d, After %d, Key %q", s.Len(), s.After(9), s.Key())
	}
	wide := bits.New(200)
	wide.Or(s)
	wantList(t, "and back", wide, 0, 9)
	other := bits.NewTable(10)
	other.Intern(bits.Of(10, 0, 9))
	if other.Find(s) != 0 {
		t.Errorf("a table does not know it")
	}
}

func TestWithItself(t *testing.T) {
	for _, w := range widths {
		s := every(w, 0, 5)
		was := s.Copy()
		s.And(s)
		if !s.Same(was) {
			t.Errorf("width %d: And of itself", w)
		}
		s.Or(s)
		if !s.Same(was) {
			t.Errorf("width %d: Or of itself", w)
		}
		if !s.Same(s) || !s.Within(s) {
			t.Errorf("width %d: Same, Within of itself", w)
		}
		s.Less(s)
		if s.Len() != 0 || !s.Same(bits.New(w)) {
			t.Errorf("width %d: Less of itself: %v", w, list(s))
		}
	}
}

func TestSame(t *testing.T) {
	s := bits.Of(130, 1, 129)
	for _, c := range []struct {
		o    *bits.Set
		want bool
	}{
		{bits.Of(130, 129, 1), true}, {bits.Of(131, 1, 129), false}, {bits.Of(129, 1), false},
		{bits.Of(130, 1), false}, {bits.Of(130, 1, 128, 129), false}, {bits.Of(130, 0, 129), false},
	} {
		if s.Same(c.o) != c.want || c.o.Same(s) != c.want {
			t.Errorf("Same of %v, width %d: %v", list(c.o), c.o.Width(), s.Same(c.o))
		}
	}
	if bits.New(10).Same(bits.New(11)) || bits.New(0).Same(bits.New(1)) || !bits.New(0).Same(bits.New(0)) || bits.New(65535).Same(bits.New(65536)) {
		t.Errorf("Same of sets without any")
	}
}

func TestWithin(t *testing.T) {
	s := bits.Of(130, 1, 70)
	for _, c := range []struct {
		o    *bits.Set
		want bool
	}{
		{bits.Of(130, 1, 70), true}, {bits.Of(130, 1, 2, 70), true}, {bits.Of(130, 1), false},
		{bits.Of(71, 1, 70), true}, {bits.Of(70, 1), false}, {bits.Of(64, 1), false},
		{bits.Of(65536, 1, 70, 65535), true}, {bits.Of(65536, 1, 65535), false}, {bits.New(0), false},
	} {
		if s.Within(c.o) != c.want {
			t.Errorf("Within of %v, width %d: %v", list(c.o), c.o.Width(), !c.want)
		}
	}
	if !bits.New(200).Within(bits.New(0)) || !bits.New(0).Within(s) || !bits.New(0).Within(bits.New(0)) {
		t.Errorf("a set without any is within each")
	}
	if !bits.Of(200, 3).Within(bits.Of(4, 3)) || bits.Of(200, 3, 64).Within(bits.Of(4, 3)) {
		t.Errorf("a wider one within a narrower one")
	}
}

func TestCopiesKnowNothingOfOneAnother(t *testing.T) {
	s := bits.Of(130, 1, 64, 129)
	c, d := s.Copy(), s.Copy()
	if !c.Same(s) || !d.Same(c) {
		t.Fatalf("copies are others: %v, %v", list(c), list(d))
	}
	c.Cut(1)
	c.Put(2)
	d.Less(d)
	s.Put(3)
	wantList(t, "s", s, 1, 3, 64, 129)
	wantList(t, "c", c, 2, 64, 129)
	wantList(t, "d", d)
	for _, w := range widths {
		if c := full(w).Copy(); c.Width() != w || c.Len() != w {
			t.Errorf("Copy of the full set of width %d: width %d, Len %d", w, c.Width(), c.Len())
		}
	}
}

func TestKey(t *testing.T) {
	for _, c := range []struct {
		s    *bits.Set
		want string
	}{
		{bits.Of(10, 3, 7, 3, 12), "\x88\x00"}, {bits.New(0), ""}, {bits.New(1), "\x00"}, {bits.Of(1, 0), "\x01"},
		{bits.Of(8, 7), "\x80"}, {bits.Of(9, 8), "\x00\x01"}, {full(9), "\xff\x01"},
		{bits.Of(65, 0, 63, 64), "\x01\x00\x00\x00\x00\x00\x00\x80\x01"},
		{bits.Of(80, 8, 17, 26, 35, 44, 53, 62, 71, 72), "\x00\x01\x02\x04\x08\x10\x20\x40\x80\x01"},
	} {
		if got := c.s.Key(); got != c.want {
			t.Errorf("Key of %v, width %d: %q, want %q", list(c.s), c.s.Width(), got, c.want)
		}
	}
	for _, w := range widths {
		s := every(w, 0, 3)
		key := s.Key()
		if len(key) != (w+7)/8 {
			t.Fatalf("width %d: a key of %d bytes", w, len(key))
		}
		for i := range 8 * len(key) {
			if (key[i/8]>>(i%8)&1 == 1) != s.Has(i) {
				t.Fatalf("width %d: the bit of %d", w, i)
			}
		}
		if s.Copy().Key() != key || w > 0 && full(w).Key() == bits.New(w).Key() {
			t.Errorf("width %d: keys and sets", w)
		}
	}
}

// Sets of one width are a Boolean algebra.
func TestAlgebra(t *testing.T) {
	or := func(a, b *bits.Set) *bits.Set { c := a.Copy(); c.Or(b); return c }
	and := func(a, b *bits.Set) *bits.Set { c := a.Copy(); c.And(b); return c }
	less := func(a, b *bits.Set) *bits.Set { c := a.Copy(); c.Less(b); return c }
	for _, w := range []int{0, 1, 5, 64, 65, 130} {
		all := full(w)
		not := func(a *bits.Set) *bits.Set { return less(all, a) }
		some := []*bits.Set{bits.New(w), all, every(w, 0, 2), every(w, 1, 2), every(w, 0, 3), every(w, 63, 1), every(w, 4, 5)}
		for _, a := range some {
			if !or(a, not(a)).Same(all) || !and(a, not(a)).Same(bits.New(w)) || !not(not(a)).Same(a) {
				t.Errorf("width %d: what is not in %v", w, list(a))
			}
			for _, b := range some {
				if !or(a, b).Same(or(b, a)) || !and(a, b).Same(and(b, a)) || !not(or(a, b)).Same(and(not(a), not(b))) || !less(a, b).Same(and(a, not(b))) {
					t.Errorf("width %d: %v and %v", w, list(a), list(b))
				}
				if or(a, b).Len()+and(a, b).Len() != a.Len()+b.Len() {
					t.Errorf("width %d: how many %v and %v have", w, list(a), list(b))
				}
				if a.Within(b) != or(a, b).Same(b) || a.Within(b) != and(a, b).Same(a) || a.Same(b) != (a.Key() == b.Key()) || a.Same(b) != (a.Within(b) && b.Within(a)) {
					t.Errorf("width %d: Within, Same, Key of %v and %v", w, list(a), list(b))
				}
				for _, c := range some {
					if !and(a, or(b, c)).Same(or(and(a, b), and(a, c))) || !or(or(a, b), c).Same(or(a, or(b, c))) || !and(and(a, b), c).Same(and(a, and(b, c))) {
						t.Errorf("width %d: %v, %v, %v", w, list(a), list(b), list(c))
					}
				}
			}
		}
	}
}

// Example 1 of the chapter.
func TestSetsExample(t *testing.T) {
	s := bits.Of(10, 3, 7, 3, 12)
	wantList(t, "Of", s, 3, 7)
	if s.Len() != 2 || s.After(3) != 7 || s.After(-5) != 3 || s.Key() != "\x88\x00" {
		t.Errorf("Len %d, After %d, %d, Key %q", s.Len(), s.After(3), s.After(-5), s.Key())
	}
	s.Less(bits.Of(4, 3))
	wantList(t, "Less", s, 7)
}
