package syntax

import (
	"slices"

	"augur/api"
	"augur/lex"
	"augur/tree"
)

// fault is why a text cannot be read on, and where: what a panic tells.
type fault struct {
	err api.Errno
	at  int
}

func giveUp(err api.Errno, at int) { panic(fault{err, at}) }

// caught is the failure of a call that was given up; nil, if it was not.
func caught(call string, reason any) error {
	if reason == nil {
		return nil
	}
	why, ok := reason.(fault)
	if !ok {
		panic(reason) // no text's fault, and not to be taken for one
	}
	return &api.Failure{Call: call, Err: why.err, At: why.at}
}

// read is the formula that a text is, if it is one of that tense and within the
// limits; else it is given up.
func read(text string, l api.Limits, of tense) api.Formula {
	f := formula(text, of)
	bound(len(text), l.Text, api.MaxText, api.ErrLimitText)
	bound(tree.Size(f), l.Nodes, api.MaxNodes, api.ErrLimitNodes)
	bound(tree.Depth(f), l.Depth, api.MaxDepth, api.ErrLimitDepth)
	bound(len(tree.Names(f)), l.Props, api.MaxProps, api.ErrLimitProps)
	return f
}

// bound gives up, if a count is greater than its limit or than api's own.
func bound(count, limit, most int, err api.Errno) {
	if count > min(limit, most) {
		giveUp(err, 0)
	}
}

// formula is the one that a text is, however great.
func formula(text string, of tense) api.Formula {
	r := reader{table: operators(), of: of}
	for token := range lex.All(text) {
		r.take(token)
	}
	if !r.ended {
		_, err, at := lex.Tokens(text)
		giveUp(err, at)
	}
	return r.ready[0]
}

// reader makes a formula of tokens, as they come. What is open is kept in a
// list, not in calls, so that brackets may stand in one another however deep.
type reader struct {
	table  map[string]operator
	of     tense
	open   []operator    // brackets, and operators whose last kid is to come
	ready  []api.Formula // those that no operator has taken yet
	behind bool          // a formula stands straight ahead of the next token
	ended  bool
}

func (r *reader) take(t api.Token) {
	if r.behind {
		r.goOn(t)
	} else {
		r.begin(t)
	}
}

// begin takes a token where a formula is to begin.
func (r *reader) begin(t api.Token) {
	o, known := r.known(t)
	switch {
	case t.Kind == api.TokenName:
		r.leaf(api.Formula{Op: api.OpProp, Name: t.Text})
	case known && o.level == alone:
		r.leaf(api.Formula{Op: o.op})
	case known && o.level == ahead:
		r.open = append(r.open, o)
	case isSign(t, "("):
		r.open = append(r.open, operator{level: bracket, right: true})
	default:
		giveUp(api.ErrSyntax, t.At)
	}
}

// goOn takes a token behind a formula.
func (r *reader) goOn(t api.Token) {
	o, known := r.known(t)
	switch {
	case known && o.level >= between:
		r.settle(o)
		r.open = append(r.open, o)
		r.behind = false
	case isSign(t, ")"):
		r.shut(t)
	case t.Kind == api.TokenEnd:
		r.end(t)
	default:
		giveUp(api.ErrSyntax, t.At)
	}
}

// known is the operator that a token is, if it is one of the formula's tense. A
// name is none, whatever its text.
func (r *reader) known(t api.Token) (operator, bool) {
	o, is := r.table[t.Text]
	return o, is && t.Kind != api.TokenName && (o.of == both || o.of == r.of)
}

func isSign(t api.Token, text string) bool { return t.Kind == api.TokenSign && t.Text == text }

func (r *reader) leaf(f api.Formula) {
	r.ready = append(r.ready, f)
	r.behind = true
}

// shut takes a bracket that ends what the last open one began.
func (r *reader) shut(t api.Token) {
	r.settle(operator{level: bracket})
	if len(r.open) == 0 {
		giveUp(api.ErrSyntax, t.At)
	}
	r.open = r.open[:len(r.open)-1]
}

func (r *reader) end(t api.Token) {
	r.settle(operator{level: bracket})
	if len(r.open) > 0 {
		giveUp(api.ErrSyntax, t.At)
	}
	r.ended = true
}

// settle has all operators take their kids that do so ahead of a later one, back
// to the last open bracket.
func (r *reader) settle(later operator) {
	for n := len(r.open); n > 0 && r.open[n-1].takes(later); n-- {
		r.join(r.open[n-1])
		r.open = r.open[:n-1]
	}
}

// join makes one formula of an operator and the last that are ready.
func (r *reader) join(o operator) {
	first := len(r.ready) - 1
	if o.level >= between {
		first--
	}
	kids := slices.Clone(r.ready[first:])
	r.ready = append(r.ready[:first], api.Formula{Op: o.op, Kids: kids})
}
