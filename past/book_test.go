package past_test

import (
	"fmt"
	"slices"
	"strings"
	"testing"

	"augur/api"
	"augur/past"
	"augur/syntax"
	"augur/tree"
)

// define is one by two texts: a name, and what it is.
func define(name, text string) api.Define { return api.Define{Name: name, Text: text} }

// book wants one.
func book(t *testing.T, names []string, defines ...api.Define) *past.Book {
	t.Helper()
	b, err := past.NewBook(names, defines...)
	if err != nil || b == nil {
		t.Fatalf("NewBook(%q, %.300v): %v", names, defines, err)
	}
	return b
}

// wantBook wants these names of a step; both are texts with blanks between.
func wantBook(t *testing.T, b *past.Book, names, want string) {
	t.Helper()
	if got := b.Step(strings.Fields(names)...); !slices.Equal(got, strings.Fields(want)) {
		t.Fatalf("Step(%s): %q, want %s", names, got, want)
	}
}

func TestBookExample(t *testing.T) {
	b := book(t, []string{"open", "close"}, define("seen", "O open"), define("twice", "open & Y seen"))
	for range 3 {
		if got := b.Names(); !slices.Equal(got, []string{"open", "close", "seen", "twice"}) {
			t.Errorf("%q", got)
		}
		wantBook(t, b, "open", "open seen")
		wantBook(t, b, "close x", "close seen")
		wantBook(t, b, "open open", "open seen twice")
		b.Reset()
	}
	// Names come one by one.
	if got := b.Step("close", "open"); !slices.Equal(got, []string{"open", "close", "seen"}) {
		t.Errorf("%q", got)
	}
	if got := b.Step(); !slices.Equal(got, []string{"seen"}) {
		t.Errorf("%q", got)
	}
}

func TestSmallBooks(t *testing.T) {
	b := book(t, nil)
	wantBook(t, b, "a b c", "")
	if got := b.Names(); len(got) != 0 {
		t.Errorf("%q", got)
	}
	b = book(t, []string{"a", "b"})
	wantBook(t, b, "b x a b", "a b")
	wantBook(t, b, "", "")
	b = book(t, nil, define("first", "!Y true"), define("later", "!first"), define("never", "false"), define("ever", "H (first | later)"))
	wantBook(t, b, "later never", "first ever")
	wantBook(t, b, "first", "later ever")
	b.Reset()
	wantBook(t, b, "", "first ever")
}

// What is no given name is let by: a defined one, another, an odd one.
func TestLetBy(t *testing.T) {
	b := book(t, []string{"a", "b"}, define("c", "Y a"), define("d", "O c"))
	if got := b.Step("c", "d", "A", "a ", "", `"`, "\xff", strings.Repeat("a", 100), "ab"); len(got) != 0 {
		t.Errorf("%q", got)
	}
	if got := b.Step(append(slices.Repeat([]string{"x", "b"}, 100000), "a")...); !slices.Equal(got, []string{"a", "b"}) {
		t.Errorf("%q", got)
	}
	wantBook(t, b, "d", "c d")
	wantBook(t, b, "c", "d")
}

// Each given name by its own, in the order of Names, whatever the order of the step.
func TestGivenNames(t *testing.T) {
	names := []string{"h", "g", "f", "e", "d", "c", "b", "a"}
	b := book(t, names, define("none", "!(h | g | f | e | d | c | b | a)"), define("were", "Y !none"))
	were := false
	for set := range 256 {
		var some []string
		for i, name := range names {
			if set>>i&1 == 1 {
				some = append(some, name)
			}
		}
		want := slices.Clone(some)
		if set == 0 {
			want = append(want, "none")
		}
		if were {
			want = append(want, "were")
		}
		slices.Reverse(some)
		if got := b.Step(some...); !slices.Equal(got, want) {
			t.Fatalf("%q: %q, want %q", some, got, want)
		}
		were = set != 0
	}
}

// Names that a text writes in quotes, words among them.
func TestOddNames(t *testing.T) {
	long := strings.Repeat("~", 32)
	b := book(t, []string{"O", " ", long}, define("true", `"O" & " "`), define("a b", `O "true"`), define("!", `"`+long+`" | "a b"`), define("S", "true"))
	if got := b.Names(); !slices.Equal(got, []string{"O", " ", long, "true", "a b", "!", "S"}) {
		t.Errorf("%q", got)
	}
	for _, c := range [][2][]string{
		{{"true"}, {"S"}},
		{{long}, {long, "!", "S"}},
		{{" ", "O"}, {"O", " ", "true", "a b", "!", "S"}},
		{nil, {"a b", "!", "S"}},
	} {
		if got := b.Step(c[0]...); !slices.Equal(got, c[1]) {
			t.Errorf("%q: %q, want %q", c[0], got, c[1])
		}
	}
}

// defines are so many over those names, each by the names ahead of it; and their formulas.
func (d *draw) defines(names []string, n int) ([]api.Define, []api.Formula) {
	var defines []api.Define
	var formulas []api.Formula
	known := slices.Clone(names)
	for i := range n {
		f := d.formula(4, known[max(0, len(known)-api.MaxProps):]...)
		text, _ := syntax.Print(f)
		defines = append(defines, define(fmt.Sprintf("d%d", i), text))
		formulas = append(formulas, f)
		known = append(known, defines[i].Name)
	}
	return defines, formulas
}

// subset are some of those names.
func (d *draw) subset(names []string) []string {
	var list []string
	for _, name := range names {
		if d.below(2) == 0 {
			list = append(list, name)
		}
	}
	return list
}

// A defined name is so just where its formula holds: by the chapter's tables, over all names that were so at each step.
func TestDefinedNames(t *testing.T) {
	d := draw(31)
	given := []string{"a", "b", "c"}
	for range 400 {
		defines, formulas := d.defines(given, 1+d.below(8))
		b := book(t, given, defines...)
		for range 2 {
			steps := [][]string{}
			is := func(name string, i int) bool { return slices.Contains(steps[i], name) }
			for i := range 12 {
				some := d.subset(given)
				steps = append(steps, slices.Clone(some))
				for k, f := range formulas {
					if byRule(f, i+1, is)[i] {
						steps[i] = append(steps[i], defines[k].Name)
					}
				}
				if got := b.Step(some...); !slices.Equal(got, steps[i]) {
					t.Fatalf("%v, step %d, %q: %q, want %q", defines, i, some, got, steps[i])
				}
			}
			b.Reset()
		}
	}
}

// The same by Holds, each defined name put by its formula.
func TestDefinedNamesByHolds(t *testing.T) {
	given := []string{"p", "q"}
	texts := []string{"p S q", "Y d0 | O p", "d0 T d1", "H (d1 -> O d2) & !d0", "Z d3 <-> q"}
	var defines []api.Define
	var whole []api.Formula
	for i, text := range texts {
		f := read(text)
		for k, ahead := range whole {
			f, _ = tree.Put(f, fmt.Sprintf("d%d", k), ahead)
		}
		defines = append(defines, define(fmt.Sprintf("d%d", i), text))
		whole = append(whole, f)
	}
	b := book(t, given, defines...)
	for u := range rows(2, 5) {
		b.Reset()
		var got []string
		for _, letter := range u {
			var some []string
			for i, name := range given {
				if letter>>i&1 == 1 {
					some = append(some, name)
				}
			}
			got = b.Step(some...)
		}
		for i, f := range whole {
			is, err := past.Holds(f, given, u...)
			if err != api.OK || is != slices.Contains(got, defines[i].Name) {
				t.Fatalf("%v by %v: %q; %s: %v, %v", defines[i], u, got, told(f), is, err)
			}
		}
	}
}

// Names that are defined behind a name change nothing of it.
func TestDefinedBehind(t *testing.T) {
	d := draw(17)
	for range 100 {
		defines, _ := d.defines(pq(), 8)
		for n := range defines {
			whole, part := book(t, pq(), defines...), book(t, pq(), defines[:n]...)
			known := part.Names()
			for range 10 {
				some := d.subset(pq())
				all, want := whole.Step(some...), part.Step(some...)
				got := slices.DeleteFunc(all, func(name string) bool { return !slices.Contains(known, name) })
				if !slices.Equal(got, want) {
					t.Fatalf("%v: %q, without the last %q", defines, got, want)
				}
			}
		}
	}
}

// 8 given names and 64 defined ones: more than a letter has bits.
func TestGreatestBook(t *testing.T) {
	given := []string{"a", "b", "c", "d", "e", "f", "g", "h"}
	want := slices.Clone(given)
	var defines []api.Define
	ahead := "h"
	for i := range api.MaxDefines {
		name := fmt.Sprintf("n%d", i)
		defines = append(defines, define(name, "Y "+ahead))
		ahead = name
		want = append(want, name)
	}
	b := book(t, given, defines...)
	if got := b.Names(); !slices.Equal(got, want) {
		t.Errorf("%q", got)
	}
	for range 2 {
		wantBook(t, b, "h a", "a h")
		for i := range api.MaxDefines {
			wantBook(t, b, "b", fmt.Sprintf("b n%d", i))
		}
		wantBook(t, b, "", "")
		wantBook(t, b, "h", "h")
		b.Reset()
		wantBook(t, b, "", "")
		b.Reset()
	}
	// One that speaks of names from the whole book.
	defines[63] = define("some", "(a & n7) | (n8 & n15) | (n16 & n31) | (n32 & n62)")
	b = book(t, given, defines...)
	wantBook(t, b, "h", "h")
	for i := range 7 {
		wantBook(t, b, "", fmt.Sprintf("n%d", i))
	}
	wantBook(t, b, "a h", "a h n7 some")
	wantBook(t, b, "h", "h n0 n8")
	for i := 9; i < 16; i++ {
		wantBook(t, b, "", fmt.Sprintf("n%d n%d n%d", i-9, i-8, i))
	}
}

// R4: books of the same defines know nothing of one another.
func TestTwoBooks(t *testing.T) {
	defines := []api.Define{define("was", "Y a"), define("ever", "O a")}
	one, other := book(t, []string{"a"}, defines...), book(t, []string{"a"}, defines...)
	wantBook(t, one, "a", "a ever")
	wantBook(t, other, "", "")
	wantBook(t, one, "", "was ever")
	wantBook(t, other, "a", "a ever")
	one.Reset()
	wantBook(t, other, "", "was ever")
	wantBook(t, one, "", "")
}
