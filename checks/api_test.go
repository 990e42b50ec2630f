// Package checks holds tests of what all layers share: package api as the document tells it, and the language that the program keeps to.
package checks

import (
	"errors"
	"testing"

	"augur/api"
)

// DOC.md, 'Limits'.
func TestLimits(t *testing.T) {
	for _, c := range []struct {
		name      string
		got, want int
	}{
		{"MaxName", api.MaxName, 32}, {"MaxProps", api.MaxProps, 8}, {"MaxText", api.MaxText, 65536},
		{"MaxNodes", api.MaxNodes, 1000}, {"MaxDepth", api.MaxDepth, 100}, {"MaxRules", api.MaxRules, 64},
		{"MaxDefines", api.MaxDefines, 64}, {"MaxSlices", api.MaxSlices, 1000}, {"MaxWorkers", api.MaxWorkers, 16},
		{"MaxScript", api.MaxScript, 65536}, {"MaxGoes", api.MaxGoes, 500}, {"MaxTold", api.MaxTold, 1048576},
	} {
		if c.got != c.want {
			t.Errorf("%s is %d, want %d", c.name, c.got, c.want)
		}
	}
}

// DOC.md, 'Words': the three verdicts.
func TestVerdicts(t *testing.T) {
	if api.True != 1 || api.False != 2 || api.Inconclusive != 3 {
		t.Errorf("%d, %d, %d", api.True, api.False, api.Inconclusive)
	}
}

// DOC.md, 'Errors': numbers of a type of their own, of which 0 is none.
func TestErrorNumbers(t *testing.T) {
	for _, c := range []struct {
		err  api.Errno
		want int
	}{
		{api.OK, 0}, {api.ErrArg, 1}, {api.ErrMuch, 2}, {api.ErrBitsWidth, 10}, {api.ErrLexSign, 20},
		{api.ErrTreeForm, 30}, {api.ErrSyntax, 40}, {api.ErrWordsForm, 50}, {api.ErrEvalProp, 60}, {api.ErrNnfForm, 70},
		{api.ErrPastForm, 80}, {api.ErrTableauForm, 90}, {api.ErrBuchiForm, 100}, {api.ErrGraphForm, 110},
		{api.ErrEmptyForm, 120}, {api.ErrDFAForm, 130}, {api.ErrMooreForm, 140}, {api.ErrCodecForm, 150},
		{api.ErrRunnerForm, 170}, {api.ErrExplainForm, 180}, {api.ErrSolveForm, 190}, {api.ErrProgressForm, 200},
		{api.ErrPatternsForm, 210}, {api.ErrLearnMuch, 220}, {api.ErrFleetName, 230}, {api.ErrLabLine, 240},
	} {
		if int(c.err) != c.want {
			t.Errorf("error %d, want %d", int(c.err), c.want)
		}
	}
}

// DOC.md, 'Errors': a failure has the call's name, the number and the place, and errors.Is and errors.As find them.
func TestFailureWrapsItsNumber(t *testing.T) {
	var err error = &api.Failure{Call: "Make", Err: api.ErrSyntax, At: 3}
	if !errors.Is(err, api.ErrSyntax) || errors.Is(err, api.ErrLimitText) || errors.Is(err, api.OK) {
		t.Errorf("errors.Is of %v", err)
	}
	var f *api.Failure
	if !errors.As(err, &f) || f.Call != "Make" || f.Err != api.ErrSyntax || f.At != 3 {
		t.Errorf("errors.As finds %v", f)
	}
	var n api.Errno
	if !errors.As(err, &n) || n != api.ErrSyntax {
		t.Errorf("errors.As finds %d", int(n))
	}
}
