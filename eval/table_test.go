package eval_test

import (
	"slices"
	"testing"

	"augur/api"
	"augur/eval"
	"augur/tree"
	"augur/words"
)

func TestPlaces(t *testing.T) {
	for w := range written(1, 5) {
		if got := table(t, []string{"p"}, w).Places(); got != words.Places(w) || got != len(w.Stem)+len(w.Loop) {
			t.Errorf("%v: %d places", w, got)
		}
	}
	// As it is written, not as its normal form is.
	if got := table(t, pq(), of("0 0 0 (0 0)")).Places(); got != 5 {
		t.Errorf("%d places", got)
	}
}

// A table tells what Along tells, in whatever order it is asked, how often, of which places.
func TestTableInAnyOrder(t *testing.T) {
	list := append(someFormulas(80, 5), smallFormulas()...)
	for _, f := range someFormulas(20, 6) {
		list = append(list, tree.Subs(f)...)
	}
	d := draw(11)
	for _, w := range append(someWords(12), of("(0)"), of("3 (0)")) {
		var want []string
		for _, f := range list {
			want = append(want, yn(along(t, f, pq(), w)))
		}
		forth, back, mixed := table(t, pq(), w), table(t, pq(), w), table(t, pq(), w)
		for i := range list {
			wantKnown(t, forth, list[i], want[i])
			k := len(list) - 1 - i
			wantKnown(t, back, list[k], want[k])
		}
		for range 3 * len(list) {
			i, place := d.below(len(list)), d.below(len(w.Stem)+len(w.Loop))
			if got, err := mixed.Holds(list[i], place); err != api.OK || got != (want[i][place] == 'y') {
				t.Fatalf("%s at %d of %v: %v, %v", show(list[i]), place, w, got, err)
			}
			wantKnown(t, forth, list[i], want[i])
		}
	}
}

// R4: two tables side by side, of other words and other names, know nothing of one another.
func TestTwoTables(t *testing.T) {
	list := someFormulas(60, 5)
	one, other := of("1 1 (2 0)"), of("0 3 1 (1 2 2)")
	first, second, third := table(t, pq(), one), table(t, pq(), other), table(t, []string{"q", "p"}, one)
	for _, f := range list {
		wantKnown(t, first, f, rowByRule(f, pq(), one))
		wantKnown(t, second, f, rowByRule(f, pq(), other))
		wantKnown(t, third, f, rowByRule(f, []string{"q", "p"}, one))
	}
	if first.Places() != 4 || second.Places() != 6 || third.Places() != 4 {
		t.Error(first.Places(), second.Places(), third.Places())
	}
}

// spoil changes all of a tree.
func spoil(f api.Formula) {
	for i := range f.Kids {
		spoil(f.Kids[i])
		f.Kids[i] = op(api.OpFalse)
	}
}

// R2: a table keeps nothing of what it was handed; what it was handed stays as it is.
func TestLent(t *testing.T) {
	for _, f := range someFormulas(60, 5) {
		for _, w := range []api.Word{of("1 1 (2 0)"), of("0 2 3 (1)"), of("(1 0)")} {
			want := rowByRule(f, pq(), w)
			names := []string{"p", "q", "room"}
			stem, loop := append(slices.Clone(w.Stem), 77), append(slices.Clone(w.Loop), 78)
			lent := api.Word{Stem: stem[:len(stem)-1], Loop: loop[:len(loop)-1]}
			asked := tree.Copy(f)
			known := table(t, names[:2], lent)
			wantKnown(t, known, asked, want)
			wantAll(t, asked, names[:2], lent, want)
			if !slices.Equal(names, []string{"p", "q", "room"}) || show(asked) != show(f) {
				t.Fatalf("%q, %s", names, show(asked))
			}
			if !slices.Equal(stem, append(slices.Clone(w.Stem), 77)) || !slices.Equal(loop, append(slices.Clone(w.Loop), 78)) {
				t.Fatalf("%v, %v", stem, loop)
			}
			names[0], names[1] = "q", "p"
			for i := range stem {
				stem[i] = 3
			}
			for i := range loop {
				loop[i] = 0
			}
			spoil(asked)
			wantKnown(t, known, f, want)
			for _, g := range smallFormulas() {
				wantKnown(t, known, g, rowByRule(g, pq(), w))
			}
		}
	}
}

// R2: rows that come out are the asker's own, with the room behind them.
func TestOwnRows(t *testing.T) {
	w := of("1 1 (2 0)")
	known := table(t, pq(), w)
	ask := map[string]func(api.Formula) ([]bool, api.Errno){
		"Row":   known.Row,
		"Along": func(f api.Formula) ([]bool, api.Errno) { return eval.Along(f, pq(), w) },
	}
	for name, call := range ask {
		for _, text := range []string{"p", "true", "p U q", "X (p U q)", "G p", "!q", "p & p"} {
			f := read(text)
			want := rowByRule(f, pq(), w)
			kept, _ := call(f)
			for range 3 {
				row, err := call(f)
				if err != api.OK || yn(row) != want || yn(kept) != want {
					t.Fatalf("%s of %s: %s, %s, want %s", name, text, yn(row), yn(kept), want)
				}
				whole := row[:cap(row)]
				for i := range whole {
					whole[i] = !whole[i]
				}
				_ = append(row, true, false)
			}
			wantKnown(t, known, op(api.OpNot, op(api.OpNot, f)), want)
		}
	}
}

// R6: a list that is nil and one that is empty are the same.
func TestNilAndEmpty(t *testing.T) {
	f := read("F p")
	empty := api.Formula{Op: api.OpEvent, Kids: []api.Formula{{Op: api.OpProp, Name: "p", Kids: []api.Formula{}}}}
	bare, with := api.Word{Loop: []uint16{0, 1}}, api.Word{Stem: []uint16{}, Loop: []uint16{0, 1}}
	for _, w := range []api.Word{bare, with} {
		wantAll(t, f, []string{"p"}, w, "yy")
		wantAll(t, empty, []string{"p"}, w, "yy")
	}
	for _, names := range [][]string{nil, {}} {
		wantAll(t, op(api.OpTrue), names, of("(0)"), "y")
		wantError(t, f, names, of("(0)"), api.ErrEvalProp)
		wantError(t, op(api.OpTrue), names, api.Word{Loop: []uint16{}}, api.ErrEvalWord)
	}
}

// Each object is one's own: many hands may each have one.
func TestManyHands(t *testing.T) {
	list := someFormulas(30, 5)
	w := of("1 0 2 (3 1 0)")
	done := make(chan string)
	for range 8 {
		go func() {
			known, _ := eval.New(pq(), w)
			said := ""
			for _, f := range list {
				row, _ := known.Row(f)
				other, _ := eval.Along(f, pq(), w)
				said += yn(row) + yn(other)
			}
			done <- said
		}()
	}
	want := ""
	for _, f := range list {
		want += rowByRule(f, pq(), w) + rowByRule(f, pq(), w)
	}
	for range 8 {
		if said := <-done; said != want {
			t.Error("another answer")
		}
	}
}
