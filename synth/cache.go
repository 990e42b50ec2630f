package synth

import (
	"slices"
	"strings"
	"sync"

	"augur/api"
	"augur/syntax"
	"augur/tree"
)

// Cache makes monitors, each one once. It may be asked by several goroutines at
// once.
type Cache struct {
	limits api.Limits

	mutex    sync.Mutex
	texts    map[string]*entry // of each text that it was asked for
	formulas map[string]*entry // of each formula, by its printed text
}

// entry is what Synthesize says of some texts. It is not to be read till there is
// closed; then it never changes.
type entry struct {
	there   chan struct{}
	machine api.Moore
	refused refusal
}

func newEntry() *entry { return &entry{there: make(chan struct{})} }

// NewCache is a cache without any, with these limits.
func NewCache(l api.Limits) *Cache {
	return &Cache{limits: l, texts: map[string]*entry{}, formulas: map[string]*entry{}}
}

// Get is the monitor of a text; it may be asked by several goroutines at once.
func (c *Cache) Get(text string) (api.Moore, error) {
	e, known := c.known(text)
	if !known {
		e = c.learn(strings.Clone(text))
	}
	<-e.there
	return copied(e.machine), e.refused.by(callSynthesize)
}

// Len is how many texts it has been asked for.
func (c *Cache) Len() int {
	c.mutex.Lock()
	defer c.mutex.Unlock()
	return len(c.texts)
}

// Made is how many monitors it has made, or begun to make.
func (c *Cache) Made() int {
	c.mutex.Lock()
	defer c.mutex.Unlock()
	return len(c.formulas)
}

// All makes the monitors of texts by so many goroutines; each one's error beside.
func (c *Cache) All(workers int, texts ...string) ([]api.Moore, []error) {
	machines := make([]api.Moore, len(texts))
	failures := make([]error, len(texts))
	places := make(chan int)
	var all sync.WaitGroup
	for range min(max(workers, 1), api.MaxWorkers) {
		all.Add(1)
		go func() {
			defer all.Done()
			for at := range places {
				machines[at], failures[at] = c.Get(texts[at])
			}
		}()
	}
	for at := range texts {
		places <- at
	}
	close(places)
	all.Wait()
	return machines, failures
}

// known is the entry of a text, if it was asked for.
func (c *Cache) known(text string) (*entry, bool) {
	c.mutex.Lock()
	defer c.mutex.Unlock()
	e, is := c.texts[text]
	return e, is
}

// learn is the entry of a text that was not asked for, or only just. A text may
// be long, so it is read while nobody has to wait.
func (c *Cache) learn(text string) *entry {
	f, refused := parsed(text, c.limits)
	if refused.err != api.OK {
		return c.refuse(text, refused)
	}
	printed, _ := syntax.Print(f) // what was parsed can be printed
	e, fresh := c.share(text, printed)
	if fresh {
		e.fill(f, c.limits)
	}
	return e
}

// refuse keeps why a text has no formula.
func (c *Cache) refuse(text string, why refusal) *entry {
	e := newEntry()
	e.refused = why
	close(e.there)
	c.mutex.Lock()
	defer c.mutex.Unlock()
	c.texts[text] = e
	return e
}

// share keeps that a text is a formula, and tells the entry of that; a fresh one
// is to be made by whoever is told so.
func (c *Cache) share(text, printed string) (e *entry, fresh bool) {
	c.mutex.Lock()
	defer c.mutex.Unlock()
	e, known := c.formulas[printed]
	if !known {
		e = newEntry()
		c.formulas[printed] = e
	}
	c.texts[text] = e
	return e, !known
}

// fill makes a formula's monitor, and lets those go on who wait for it.
func (e *entry) fill(f api.Formula, l api.Limits) {
	defer close(e.there)
	e.machine, e.refused.err = monitor(f, tree.Names(f), l)
}

// copied is another machine that is the same.
func copied(m api.Moore) api.Moore {
	next := slices.Clone(m.Next)
	for state, row := range next {
		next[state] = slices.Clone(row)
	}
	return api.Moore{Props: slices.Clone(m.Props), Next: next, Out: slices.Clone(m.Out)}
}
