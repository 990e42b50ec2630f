package synth

import (
	"errors"

	"augur/api"
	"augur/syntax"
)

// The calls that failures tell.
const (
	callSynthesize = "Synthesize"
	callOf         = "Of"
)

// refusal is why there is no monitor, and where; of noughts, if there is one.
type refusal struct {
	err api.Errno
	at  int
}

// by is the error of a call that is refused, a new one each time; nil, if it is
// not.
func (r refusal) by(call string) error {
	if r.err == api.OK {
		return nil
	}
	return &api.Failure{Call: call, Err: r.err, At: r.at}
}

// parsed is the formula of a text, or why there is none.
func parsed(text string, l api.Limits) (api.Formula, refusal) {
	f, err := syntax.Parse(text, l)
	var why *api.Failure
	if errors.As(err, &why) {
		return api.Formula{}, refusal{why.Err, why.At}
	}
	return f, refusal{}
}
