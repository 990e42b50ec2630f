package tree_test

import (
	"slices"
	"strconv"
	"strings"
	"testing"

	"augur/api"
	"augur/tree"
)

// told is all that All goes through: a path, and what stands there.
func told(f api.Formula) []string {
	var list []string
	for path, part := range tree.All(f) {
		list = append(list, path+" "+text(part))
	}
	return list
}

// byHand is the same, by the chapter's rule.
func byHand(path string, f api.Formula) []string {
	list := []string{path + " " + text(f)}
	for i, kid := range f.Kids {
		below := strconv.Itoa(i)
		if path != "" {
			below = path + "." + below
		}
		list = append(list, byHand(below, kid)...)
	}
	return list
}

func TestAllExample(t *testing.T) {
	f := example()
	var paths []string
	var parts []api.Formula
	for path, part := range tree.All(f) {
		paths = append(paths, path)
		parts = append(parts, part)
	}
	if !slices.Equal(paths, []string{"", "0", "1", "1.0", "1.1", "1.1.0"}) {
		t.Errorf("%q", paths)
	}
	if !slices.EqualFunc(parts, []api.Formula{f, p, and(q, next(p)), q, next(p), p}, same) {
		t.Errorf("%v", parts)
	}
}

func TestAllOfAnyTree(t *testing.T) {
	for _, f := range someTrees() {
		if got := told(f); !slices.Equal(got, byHand("", f)) {
			t.Errorf("%s: %q", text(f), got)
		}
	}
}

// Kids from the tenth on have more than one digit.
func TestWidePaths(t *testing.T) {
	f := op(0, slices.Repeat([]api.Formula{next(p)}, 1001)...)
	var paths []string
	for path := range tree.All(f) {
		paths = append(paths, path)
	}
	if len(paths) != 2003 || paths[19] != "9" || paths[21] != "10" || paths[22] != "10.0" || paths[2002] != "1000.0" {
		t.Errorf("%q", paths[:30])
	}
}

// What holds: Size(f) trees, each under a path of its own, under which At has it; Subs are just these.
func TestAllAtSubsAgree(t *testing.T) {
	for _, f := range someTrees() {
		paths := map[string]int{}
		var texts []string
		n := 0
		for path, part := range tree.All(f) {
			n++
			paths[path]++
			texts = append(texts, text(part))
			if at, err := tree.At(f, path); err != api.OK || !same(at, part) {
				t.Errorf("%s at %q: %s, %v", text(f), path, text(at), err)
			}
		}
		if n != tree.Size(f) || len(paths) != n {
			t.Errorf("%s: %d trees, %d paths, Size %d", text(f), n, len(paths), tree.Size(f))
		}
		var subs []string
		for _, sub := range tree.Subs(f) {
			subs = append(subs, text(sub))
		}
		slices.Sort(texts)
		slices.Sort(subs)
		if !slices.Equal(subs, slices.Compact(texts)) {
			t.Errorf("%s: Subs %q, All %q", text(f), subs, texts)
		}
	}
}

func TestAllLeftEarly(t *testing.T) {
	all := tree.All(example())
	whole := told(example())
	for stop := 1; stop <= len(whole); stop++ {
		n := 0
		all(func(path string, part api.Formula) bool {
			if path+" "+text(part) != whole[n] {
				t.Errorf("left at %d: %q", stop, path)
			}
			n++
			return n < stop
		})
		if n != stop {
			t.Errorf("asked %d times, want %d", n, stop)
		}
	}
	for path := range all {
		if path == "1.0" {
			break
		}
	}
}

func TestAllAgainAndWithinItself(t *testing.T) {
	all := tree.All(example())
	for range all {
		break
	}
	var got strings.Builder
	for x := range all {
		for y := range all {
			got.WriteString(x + "/" + y + " ")
			if y == "1" {
				break
			}
		}
	}
	if got.String() != "/ /0 /1 0/ 0/0 0/1 1/ 1/0 1/1 1.0/ 1.0/0 1.0/1 1.1/ 1.1/0 1.1/1 1.1.0/ 1.1.0/0 1.1.0/1 " {
		t.Error(got.String())
	}
}

// It goes by what f was when All was called, not by what becomes of f.
func TestAllGoesByWhatWas(t *testing.T) {
	f := example()
	want := told(example())
	all := tree.All(f)
	spoil(f)
	for range 2 {
		n := 0
		for path, part := range all {
			if path+" "+text(part) != want[n] {
				t.Errorf("%d: %q %s", n, path, text(part))
			}
			n++
		}
		if n != len(want) {
			t.Errorf("%d trees", n)
		}
	}
}

// What comes out is the asker's own: changing it changes nothing that comes later.
func TestAllIsNotSpoilt(t *testing.T) {
	f := example()
	all := tree.All(f)
	for range 2 {
		var got []string
		for path, part := range all {
			got = append(got, path+" "+text(part))
			spoil(part)
			_ = append(part.Kids, p)
		}
		if !slices.Equal(got, told(example())) {
			t.Errorf("%q", got)
		}
	}
	if !same(f, example()) {
		t.Error("f has changed")
	}
}

// R4: two of one tree know nothing of one another.
func TestTwoAlls(t *testing.T) {
	f := next(p)
	one, other := tree.All(f), tree.All(f)
	var got []string
	for x := range one {
		for y := range other {
			got = append(got, x+"/"+y)
		}
	}
	if !slices.Equal(got, []string{"/", "/0", "0/", "0/0"}) {
		t.Errorf("%q", got)
	}
}

func wantNoPath(t *testing.T, f api.Formula, path string) {
	t.Helper()
	if part, err := tree.At(f, path); err != api.ErrTreePath || part.Op != 0 || part.Name != "" || len(part.Kids) != 0 {
		t.Errorf("%s at %q: %s, %v", text(f), path, text(part), err)
	}
}

func TestAtOfNothing(t *testing.T) {
	for _, path := range []string{
		"1.2", "1.", "01", "2", " ", ".", "..", ".0", "0.", "0.0", "1..0", "1.1.", ".1", "1.01", "1.1.00", "+1", "-1", "-0", "+0", "1.-0", " 1", "1 ", "1. 0", "1,0", "1/0", "1 0",
		"0x1", "1e0", "1_0", "a", "\x00", "1\x00", "1\n", "１", "\xff", "1.1.0.0", "99", "4294967296", "4294967297", "18446744073709551616", "18446744073709551617",
		"1.18446744073709551617", strings.Repeat("9", 1000), strings.Repeat("0", 1000), strings.Repeat("1.", 1000), strings.Repeat(".", 1000),
	} {
		wantNoPath(t, example(), path)
	}
	for _, f := range []api.Formula{{}, p, op(api.OpTrue)} {
		wantNoPath(t, f, "0")
		wantNoPath(t, f, ".")
		wantNoPath(t, f, "-1")
	}
	wide := op(0, slices.Repeat([]api.Formula{p}, 12)...)
	for _, path := range []string{"12", "011", "1.1", "1e1", "1_1", "+11", "0b1"} {
		wantNoPath(t, wide, path)
	}
	if part, err := tree.At(wide, "11"); err != api.OK || !same(part, p) {
		t.Error(part, err)
	}
}

// Each short path of those bytes: what All goes through is there, and nothing else.
func TestAllShortPaths(t *testing.T) {
	f := example()
	there := map[string]string{}
	for path, part := range tree.All(f) {
		there[path] = text(part)
	}
	var ask func(path string)
	ask = func(path string) {
		if want, is := there[path]; !is {
			wantNoPath(t, f, path)
		} else if part, err := tree.At(f, path); err != api.OK || text(part) != want {
			t.Errorf("%q: %s, %v", path, text(part), err)
		}
		if len(path) < 5 {
			for _, c := range []string{"0", "1", "2", ".", "-", "+"} {
				ask(path + c)
			}
		}
	}
	ask("")
}
