package synth

import "augur/api"

// Default are limits that are enough for most formulas that people write.
func Default() api.Limits {
	return api.Limits{Text: 4096, Nodes: 200, Depth: 50, Props: 8, Splits: 12, Tableau: 4096, States: 4096}
}

// greatest is as great as any of the limits of Enough is told.
const greatest = 2147483647

// Enough are limits that are enough for each formula of so many nodes over so
// many names.
func Enough(nodes, props int) api.Limits {
	nodes = min(max(nodes, 1), greatest-2) // with so many all is greatest already
	splits := power(2, nodes+2)
	most := power(4, splits)
	return api.Limits{
		Text:    api.MaxText,
		Nodes:   api.MaxNodes,
		Depth:   api.MaxDepth,
		Props:   api.MaxProps,
		Splits:  splits,
		Tableau: most,
		States:  power(2, times(min(splits, greatest-1)+1, most)),
	}
}

// times is a product of numbers from 1 on that stops growing at greatest.
func times(a, b int) int {
	if a > greatest/b {
		return greatest
	}
	return a * b
}

// power is base, from 2 on, to an exponent; it stops growing there, too.
func power(base, exponent int) int {
	p := 1
	for ; exponent > 0 && p < greatest; exponent-- {
		p = times(p, base)
	}
	return p
}
