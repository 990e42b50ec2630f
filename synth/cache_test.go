package synth_test

import (
	"math"
	"runtime"
	"slices"
	"sync"
	"testing"
	"time"

	"augur/api"
	"augur/syntax"
	"augur/synth"
)

// asked are texts: some formulas in several writings, some that are refused at each of their stages with small limits, some that are none.
func asked() []string {
	return append(texts(), "(a U b)", "a  U b", "((a)) U b", "b U a", "G(a->F b)", "G F(a)", "a U", "a  U", "", " ", "X", "a & $", `"a" U b`, "a & b & c", "(a & b) & c", "a & (b & c)", "a <-> b <-> a <-> b", "X X X X X X X a", "F a & F b & F c & F d", "a S b")
}

// small are limits with which some of these are refused.
func small() api.Limits {
	return api.Limits{Text: 25, Nodes: 20, Depth: 7, Props: 2, Splits: 4, Tableau: 30, States: 30}
}

// kept is what a cache is to be of the texts that it was asked for.
type kept struct {
	limits   api.Limits
	texts    map[string]bool
	formulas map[string]bool
}

func newKept(l api.Limits) kept { return kept{l, map[string]bool{}, map[string]bool{}} }

func (k kept) ask(text string) {
	k.texts[text] = true
	if f, err := syntax.Parse(text, k.limits); err == nil {
		k.formulas[told(f)] = true
	}
}

func (k kept) want(t *testing.T, c *synth.Cache) {
	t.Helper()
	if c.Len() != len(k.texts) || c.Made() != len(k.formulas) {
		t.Fatalf("Len %d, Made %d; want %d, %d", c.Len(), c.Made(), len(k.texts), len(k.formulas))
	}
}

// sameFailure tells whether two errors tell the same, or are none.
func sameFailure(one, other error) bool {
	a, is := one.(*api.Failure)
	b, is2 := other.(*api.Failure)
	if !is || !is2 {
		return one == nil && other == nil
	}
	return *a == *b
}

// wantGot wants what Synthesize says of a text.
func wantGot(t *testing.T, text string, l api.Limits, m api.Moore, err error) {
	t.Helper()
	want, wantErr := synth.Synthesize(text, l)
	if !same(m, want) || !sameFailure(err, wantErr) {
		t.Fatalf("%q with %+v: %+v, %v; want %+v, %v", text, l, m, err, want, wantErr)
	}
}

// A cache says what Synthesize says, however often and in whatever order it is asked; it counts unlike texts and unlike formulas.
func TestCache(t *testing.T) {
	d := draw(7)
	for _, l := range []api.Limits{synth.Default(), small(), wide(), {}, boundless(), {Text: 100, Nodes: 100, Depth: 100, Props: 8}} {
		for range 4 {
			c, k := synth.NewCache(l), newKept(l)
			k.want(t, c)
			for range 150 {
				text := asked()[d.below(len(asked()))]
				for range 1 + d.below(2) {
					m, err := c.Get(text)
					k.ask(text)
					wantGot(t, text, l, m, err)
					k.want(t, c)
				}
			}
		}
	}
}

// By hand: what counts.
func TestMade(t *testing.T) {
	l := synth.Default()
	l.Text, l.Splits = 12, 1
	c := synth.NewCache(l)
	for _, x := range []struct {
		text      string
		len, made int
		err       error
	}{
		{"a U b", 1, 1, nil},
		{"a U b", 1, 1, nil},
		{"(a U b)", 2, 1, nil}, // another text, the same formula
		{" a  U  b ", 3, 1, nil},
		{`"a" U b`, 4, 1, nil},
		{"b U a", 5, 2, nil},                      // another formula
		{"b | (a & X b)", 6, 2, api.ErrLimitText}, // Parse refuses it
		{"a U", 7, 2, api.ErrSyntax},
		{"", 8, 2, api.ErrSyntax},
		{"a U", 8, 2, api.ErrSyntax},
		{"a & $", 9, 2, api.ErrLexSign},
		{"a U b U a", 10, 3, api.ErrLimitSplits}, // Parse takes it: it was begun
		{"a U b U a", 10, 3, api.ErrLimitSplits},
		{"a U (b U a)", 11, 3, api.ErrLimitSplits},
		{"a & b", 12, 4, nil},
		{"b & a", 13, 5, nil},
		{"a  U b     ", 14, 5, nil},
		{"(a)  U (b)  ", 15, 5, nil},
		{"(a)  U (b)   ", 16, 5, api.ErrLimitText}, // as a text it is too long, and the formula is known
		{"!!a", 17, 6, nil},
		{"a", 18, 7, nil}, // the same monitor, another formula
	} {
		m, err := c.Get(x.text)
		wantGot(t, x.text, l, m, err)
		if c.Len() != x.len || c.Made() != x.made || (x.err == nil) != (err == nil) {
			t.Errorf("behind %q: Len %d, Made %d, %v; want %d, %d, %v", x.text, c.Len(), c.Made(), err, x.len, x.made, x.err)
		}
		if x.err != nil {
			wantFailure(t, x.text, m, err, "Synthesize", x.err.(api.Errno), err.(*api.Failure).At)
		}
	}
}

// The error, too, is a new one each time: of one text, and of texts of one formula.
func TestNewErrors(t *testing.T) {
	c := synth.NewCache(small())
	for _, texts := range [][2]string{{"a U", "a U"}, {"a &  $", "a &  $"}, {"a & b & c", "(a & b) & c"}, {"a & b & c", "a & b & c"}, {"F a & F b & F c & F d", "F a & F b & F c & F d"}, {"a <-> b <-> a <-> b", "(a <-> b) <-> a <-> b"}} {
		_, one := c.Get(texts[0])
		_, other := c.Get(texts[1])
		wantUnlike(t, one, other)
		_, again := c.Get(texts[0])
		if again.(*api.Failure).At == -7 {
			t.Errorf("%q: what was handed out is kept", texts[0])
		}
		_, errors := c.All(2, texts[0], texts[1])
		wantUnlike(t, errors[0], errors[1])
	}
}

// T10: by however many goroutines, in whatever order, it is the same, and made once.
func TestManyHands(t *testing.T) {
	for _, l := range []api.Limits{synth.Default(), small()} {
		type answer struct {
			m   api.Moore
			err error
		}
		want := map[string]answer{}
		k := newKept(l)
		for _, text := range asked() {
			m, err := synth.Synthesize(text, l)
			want[text] = answer{m, err}
			k.ask(text)
		}
		for round := range 12 {
			c := synth.NewCache(l)
			var all sync.WaitGroup
			for hand := range 1 + 2*round {
				all.Go(func() {
					d := draw(100*round + hand)
					for i := range 2 * len(asked()) {
						text := asked()[(i+d.below(3)+hand%2*d.below(len(asked())))%len(asked())]
						m, err := c.Get(text)
						if !same(m, want[text].m) || !sameFailure(err, want[text].err) {
							t.Errorf("%q: %+v, %v", text, m, err)
						}
						if i%7 == 0 && (c.Len() > len(k.texts) || c.Made() > len(k.formulas) || c.Made() > c.Len()) {
							t.Errorf("Len %d, Made %d", c.Len(), c.Made())
						}
						spoilMachine(m)
					}
				})
			}
			all.Wait()
			for _, text := range asked() {
				c.Get(text)
			}
			k.want(t, c)
		}
	}
}

// slow is a text whose monitor takes some time.
const slow = "((((a U b) U c) U d) U e) U f"

// Whoever asks for what is being made waits till it is made; other texts can be had meanwhile.
func TestWaiting(t *testing.T) {
	l := synth.Default()
	want, wantErr := synth.Synthesize(slow, l)
	c := synth.NewCache(l)
	var all sync.WaitGroup
	for hand := range 12 {
		all.Go(func() {
			text := slow
			if hand%2 == 1 {
				text = "(" + slow + ")"
			}
			if m, err := c.Get(text); !same(m, want) || !sameFailure(err, wantErr) {
				t.Errorf("%v, %v", m, err)
			}
		})
	}
	for c.Made() == 0 {
		runtime.Gosched()
	}
	if m, err := c.Get("a U b"); err != nil || len(m.Out) != 3 {
		t.Errorf("%+v, %v", m, err)
	}
	all.Wait()
	if c.Len() != 3 || c.Made() != 2 {
		t.Errorf("Len %d, Made %d", c.Len(), c.Made())
	}
}

// All: each one's Get at its place, however many workers are asked for.
func TestAll(t *testing.T) {
	d := draw(3)
	for _, l := range []api.Limits{synth.Default(), small()} {
		for _, workers := range []int{math.MinInt, -1, 0, 1, 2, 3, 15, 16, 17, 1000, math.MaxInt} {
			c, k := synth.NewCache(l), newKept(l)
			for _, n := range []int{0, 1, 2, 17, 60} {
				list := make([]string, n)
				for i := range list {
					list[i] = asked()[d.below(len(asked()))]
					k.ask(list[i])
				}
				lent := append(slices.Clone(list), "room")[:n]
				machines, errors := c.All(workers, lent...)
				if len(machines) != n || len(errors) != n || !slices.Equal(lent, list) || lent[:n+1][n] != "room" {
					t.Fatalf("%d workers, %d texts: %d machines, %d errors; %q", workers, n, len(machines), len(errors), lent)
				}
				for i, text := range list {
					wantGot(t, text, l, machines[i], errors[i])
				}
				k.want(t, c)
			}
		}
	}
	c := synth.NewCache(wide())
	if machines, errors := c.All(3); len(machines) != 0 || len(errors) != 0 || c.Len() != 0 || c.Made() != 0 {
		t.Errorf("%v, %v", machines, errors)
	}
}

// All by several at once, with Gets between.
func TestAllAtOneTime(t *testing.T) {
	l := small()
	c, k := synth.NewCache(l), newKept(l)
	for _, text := range asked() {
		k.ask(text)
	}
	var all sync.WaitGroup
	for hand := range 6 {
		all.Go(func() {
			list := slices.Clone(asked())
			slices.Reverse(list[hand:])
			machines, errors := c.All(hand*4, list...)
			for i, text := range list {
				m, err := c.Get(text)
				if !same(m, machines[i]) || !sameFailure(err, errors[i]) {
					t.Errorf("%q: %+v, %v; %+v, %v", text, m, err, machines[i], errors[i])
				}
			}
		})
	}
	all.Wait()
	k.want(t, c)
}

// goroutinesDuring is how many more goroutines than before there are, at most, while something is done.
func goroutinesDuring(before int, do func()) int {
	most := 0
	done := make(chan struct{})
	go func() {
		defer close(done)
		do()
	}()
	for {
		select {
		case <-done:
			return most
		default:
			most = max(most, runtime.NumGoroutine()-before-1)
			time.Sleep(100 * time.Microsecond)
		}
	}
}

// settled is how many goroutines there are when those that are done have gone.
func settled(most int) int {
	for range 1000 {
		if runtime.NumGoroutine() <= most {
			break
		}
		time.Sleep(time.Millisecond)
	}
	return runtime.NumGoroutine()
}

// All: by so many goroutines at a time, of which none is left behind (R5).
func TestWorkers(t *testing.T) {
	list := slices.Repeat([]string{slow, "(" + slow + ") | g", "(" + slow + ") & g"}, 10)
	for workers, want := range map[int]int{-3: 1, 0: 1, 1: 1, 4: 4, 16: 16, 17: 16, 400: 16} {
		before := settled(2)
		got := goroutinesDuring(before, func() { synth.NewCache(synth.Default()).All(workers, list...) })
		if got != want {
			t.Errorf("%d workers: %d goroutines, want %d", workers, got, want)
		}
		if after := settled(before); after > before {
			t.Errorf("%d workers: %d goroutines are left of %d", workers, after, before)
		}
	}
}

// R4: two caches know nothing of one another, and each has its own limits.
func TestTwoCaches(t *testing.T) {
	one, other := synth.NewCache(wide()), synth.NewCache(small())
	for _, text := range asked() {
		m, err := one.Get(text)
		wantGot(t, text, wide(), m, err)
	}
	if other.Len() != 0 || other.Made() != 0 {
		t.Errorf("Len %d, Made %d", other.Len(), other.Made())
	}
	for _, text := range asked() {
		m, err := other.Get(text)
		wantGot(t, text, small(), m, err)
	}
	third := synth.NewCache(wide())
	if third == one || third.Len() != 0 || third.Made() != 0 {
		t.Errorf("Len %d, Made %d", third.Len(), third.Made())
	}
}
