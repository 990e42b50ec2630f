package moore_test

import (
	"iter"
	"slices"
	"strings"
	"testing"

	"augur/api"
	"augur/moore"
)

// The calls as the chapter lists them.
var (
	_ func(api.Moore) api.Errno                             = moore.Check
	_ func(can, fail api.DFA) (api.Moore, api.Errno)        = moore.Product
	_ func(api.Moore) (api.Moore, api.Errno)                = moore.Reach
	_ func(api.Moore) (api.Moore, api.Errno)                = moore.Least
	_ func(api.Moore, ...uint16) (int, api.Errno)           = moore.Run
	_ func(a, b api.Moore) (bool, api.Errno)                = moore.Same
	_ func(api.Moore, int, int) ([]uint16, bool, api.Errno) = moore.Apart
	_ func(api.Moore) (bool, api.Errno)                     = moore.Trap
)

func TestNumbers(t *testing.T) {
	if api.OK != 0 || api.ErrArg != 1 || api.ErrDFAForm != 130 || api.ErrMooreForm != 140 {
		t.Errorf("%d, %d, %d, %d", api.OK, api.ErrArg, api.ErrDFAForm, api.ErrMooreForm)
	}
}

func names8() []string { return strings.Split("a b c d e f g h", " ") }

// state is what a state says, and where it goes by each letter.
type state struct {
	out  api.Verdict
	next []int
}

func st(out api.Verdict, next ...int) state { return state{out, next} }

// machine is one over so many names.
func machine(props int, states ...state) api.Moore {
	m := api.Moore{Props: names8()[:props]}
	for _, s := range states {
		m.Next = append(m.Next, s.next)
		m.Out = append(m.Out, s.out)
	}
	return m
}

func same(a, b api.Moore) bool {
	return slices.Equal(a.Props, b.Props) && slices.Equal(a.Out, b.Out) && slices.EqualFunc(a.Next, b.Next, slices.Equal)
}

func isZero(m api.Moore) bool { return len(m.Props) == 0 && len(m.Next) == 0 && len(m.Out) == 0 }

// draw are numbers that look as if nobody knew them, always the same.
type draw uint32

func (d *draw) below(n int) int {
	*d = *d*1664525 + 1013904223
	return int(*d>>8) % n
}

// machine is one of 1 to so many states, not all of which need be reached; it says unlike things seldom, so that states often say the same.
func (d *draw) machine(states, props int) api.Moore {
	n := 1 + d.below(states)
	m := api.Moore{Props: names8()[:props]}
	for range n {
		row := make([]int, 1<<props)
		for letter := range row {
			row[letter] = d.below(n)
		}
		m.Next = append(m.Next, row)
		m.Out = append(m.Out, api.Verdict(max(1, 3-d.below(10)/4)))
	}
	return m
}

// row has so many letters.
func (d *draw) row(props, length int) []uint16 {
	u := make([]uint16, length)
	for i := range u {
		u[i] = uint16(d.below(1 << props))
	}
	return u
}

// rows goes through all rows of at most so many letters, shorter ones first, of those as long the least first.
func rows(props, longest int) iter.Seq[[]uint16] {
	return func(yield func([]uint16) bool) {
		last := [][]uint16{nil}
		for length := 0; length <= longest; length++ {
			var next [][]uint16
			for _, u := range last {
				if !yield(u) {
					return
				}
				for letter := range uint16(1) << props {
					if length < longest {
						next = append(next, append(slices.Clone(u), letter))
					}
				}
			}
			last = next
		}
	}
}

// behind is the state behind u, from a state on.
func behind(m api.Moore, state int, u []uint16) int {
	for _, letter := range u {
		state = m.Next[state][letter]
	}
	return state
}

func wantMachine(t *testing.T, who string, got api.Moore, err api.Errno, want api.Moore) {
	t.Helper()
	if err != api.OK || !same(got, want) || moore.Check(got) != api.OK {
		t.Fatalf("%s: %+v, %v; want %+v", who, got, err, want)
	}
}

func wantLeast(t *testing.T, m, want api.Moore) {
	t.Helper()
	got, err := moore.Least(m)
	if err != api.OK || !same(got, want) || moore.Check(got) != api.OK {
		t.Fatalf("Least(%+v): %+v, %v; want %+v", m, got, err, want)
	}
}

func wantReach(t *testing.T, m, want api.Moore) {
	t.Helper()
	got, err := moore.Reach(m)
	if err != api.OK || !same(got, want) || moore.Check(got) != api.OK {
		t.Fatalf("Reach(%+v): %+v, %v; want %+v", m, got, err, want)
	}
}

func wantApart(t *testing.T, m api.Moore, s, u int, row []uint16, apart bool) {
	t.Helper()
	if got, is, err := moore.Apart(m, s, u); !slices.Equal(got, row) || is != apart || err != api.OK {
		t.Fatalf("Apart(%+v, %d, %d): %v, %v, %v; want %v, %v", m, s, u, got, is, err, row, apart)
	}
}

func wantSame(t *testing.T, a, b api.Moore, want bool) {
	t.Helper()
	if is, err := moore.Same(a, b); is != want || err != api.OK {
		t.Fatalf("Same(%+v, %+v): %v, %v", a, b, is, err)
	}
	if is, err := moore.Same(b, a); is != want || err != api.OK {
		t.Fatalf("Same(%+v, %+v): %v, %v", b, a, is, err)
	}
}

func wantTrap(t *testing.T, m api.Moore, want bool) {
	t.Helper()
	if is, err := moore.Trap(m); is != want || err != api.OK {
		t.Fatalf("Trap(%+v): %v, %v", m, is, err)
	}
}

func wantRun(t *testing.T, m api.Moore, want int, u ...uint16) {
	t.Helper()
	if got, err := moore.Run(m, u...); got != want || err != api.OK {
		t.Fatalf("Run(%+v, %v): %d, %v; want %d", m, u, got, err, want)
	}
}

func wantRunRefused(t *testing.T, m api.Moore, want api.Errno, u ...uint16) {
	t.Helper()
	if got, err := moore.Run(m, u...); got != 0 || err != want {
		t.Fatalf("Run(%+v, %v): %d, %v; want %v", m, u, got, err, want)
	}
}

// The chapter's examples.
func TestExamples(t *testing.T) {
	first := machine(1, st(3, 1, 2), st(3, 0, 2), st(1, 2, 2), st(2, 0, 0))
	wantLeast(t, first, machine(1, st(3, 0, 1), st(1, 1, 1)))
	wantReach(t, first, machine(1, st(3, 1, 2), st(3, 0, 2), st(1, 2, 2)))
	wantApart(t, machine(1, st(3, 1, 2), st(3, 0, 1), st(1, 2, 2)), 0, 1, []uint16{1}, true)
	wantApart(t, machine(1, st(3, 1, 2), st(3, 0, 1), st(1, 2, 2)), 0, 2, nil, true)
	can := api.DFA{Props: []string{"a"}, Next: [][]int{{0, 1}, {1, 1}}, Live: []bool{true, true}}
	fail := api.DFA{Props: []string{"a"}, Next: [][]int{{0, 1}, {1, 1}}, Live: []bool{true, false}}
	m, err := moore.Product(can, fail)
	wantMachine(t, "Product", m, err, machine(1, st(3, 0, 1), st(1, 1, 1)))
	wantRun(t, first, 2, 1, 0, 0)
	wantRunRefused(t, first, api.ErrArg, 2)
	for _, m := range []api.Moore{{}, machine(1), machine(1, st(4, 0, 0)), machine(1, st(3, 0))} {
		if err := moore.Check(m); err != api.ErrMooreForm {
			t.Errorf("Check(%+v): %v", m, err)
		}
	}
}
