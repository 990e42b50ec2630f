package past

import (
	"errors"
	"slices"

	"augur/api"
	"augur/syntax"
	"augur/tree"
)

// Book is names that are defined by formulas of the past, each by names and
// those ahead of it.
type Book struct {
	names       []string // the given ones, then the defined ones
	given       int      // how many of them are given
	definitions []definition
}

// definition is what tells whether a defined name is so.
type definition struct {
	watch  *Watch // over the names of its own formula: a book may have more than letters have bits
	places []int  // of each of these, which of the book's names it is
}

// NewBook is a book over these names.
func NewBook(names []string, defines ...api.Define) (*Book, error) {
	if !isList(names) {
		return nil, failed(api.ErrArg, 0)
	}
	if len(defines) > api.MaxDefines {
		return nil, failed(api.ErrMuch, 0)
	}
	b := &Book{names: slices.Clone(names), given: len(names)}
	for i, d := range defines {
		if err := b.define(d); err != api.OK {
			return nil, failed(err, i)
		}
	}
	return b, nil
}

func failed(err api.Errno, at int) error {
	return &api.Failure{Call: "NewBook", Err: err, At: at}
}

// define adds a name; if it is refused, the book is not to be used.
func (b *Book) define(d api.Define) api.Errno {
	if !isName(d.Name) || slices.Contains(b.names, d.Name) {
		return api.ErrPastName
	}
	greatest := api.Limits{Text: api.MaxText, Nodes: api.MaxNodes, Depth: api.MaxDepth, Props: api.MaxProps}
	f, err := syntax.ParsePast(d.Text, greatest)
	if err != nil {
		return numberOf(err)
	}
	names := tree.Names(f)
	places := make([]int, len(names))
	for i, name := range names {
		places[i] = slices.Index(b.names, name)
		if places[i] < 0 {
			return api.ErrPastName
		}
	}
	watch, number := New(f, names)
	if number != api.OK {
		return number
	}
	b.names = append(b.names, d.Name)
	b.definitions = append(b.definitions, definition{watch, places})
	return api.OK
}

// numberOf is the number that an error wraps.
func numberOf(err error) api.Errno {
	var number api.Errno
	errors.As(err, &number)
	return number
}

// Names are all names: the given ones, then the defined ones.
func (b *Book) Names() []string { return slices.Clone(b.names) }

// Step takes the given names that are so; all names that are so then.
func (b *Book) Step(names ...string) []string {
	so := make([]bool, 0, len(b.names))
	for _, name := range b.names[:b.given] {
		so = append(so, slices.Contains(names, name))
	}
	for _, d := range b.definitions {
		so = append(so, d.step(so))
	}
	var list []string
	for i, is := range so {
		if is {
			list = append(list, b.names[i])
		}
	}
	return list
}

// step tells whether the name is so, by the names ahead of it.
func (d definition) step(so []bool) bool {
	var letter uint16
	for i, place := range d.places {
		if so[place] {
			letter |= 1 << i
		}
	}
	holds, _ := d.watch.Step(letter) // no letter of its own names is refused
	return holds
}

// Reset lets it have seen nothing.
func (b *Book) Reset() {
	for _, d := range b.definitions {
		d.watch.Reset()
	}
}
