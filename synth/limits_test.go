package synth_test

import (
	"math"
	"math/big"
	"testing"

	"augur/api"
	"augur/synth"
)

func TestDefault(t *testing.T) {
	if l := synth.Default(); l != (api.Limits{Text: 4096, Nodes: 200, Depth: 50, Props: 8, Splits: 12, Tableau: 4096, States: 4096}) {
		t.Errorf("%+v", l)
	}
}

// power is base to an exponent, or 2147483647, whichever is less, by great numbers. (2 to the power 32 and all above are more.)
func power(base int64, exponent *big.Int) *big.Int {
	bound := big.NewInt(2147483647)
	if exponent.Cmp(big.NewInt(32)) >= 0 {
		return bound
	}
	p := new(big.Int).Exp(big.NewInt(base), exponent, nil)
	if p.Cmp(bound) > 0 {
		return bound
	}
	return p
}

// enoughByHand is what the chapter says of so many nodes.
func enoughByHand(nodes int) api.Limits {
	exponent := new(big.Int).Add(big.NewInt(int64(max(nodes, 1))), big.NewInt(2))
	m := power(2, exponent)
	tableau := power(4, m)
	product := new(big.Int).Mul(new(big.Int).Add(m, big.NewInt(1)), tableau)
	return api.Limits{
		Text: api.MaxText, Nodes: api.MaxNodes, Depth: api.MaxDepth, Props: api.MaxProps,
		Splits: int(m.Int64()), Tableau: int(tableau.Int64()), States: int(power(2, product).Int64()),
	}
}

func TestEnough(t *testing.T) {
	nodes := []int{math.MinInt, -1 << 32, math.MaxInt, math.MaxInt - 1, math.MaxInt - 2, 1 << 32, 1<<32 - 2, 2147483644, 2147483645, 2147483646, 2147483647, 2147483648}
	for n := -5; n <= 1100; n++ {
		nodes = append(nodes, n)
	}
	for _, n := range nodes {
		want := enoughByHand(n)
		for _, props := range []int{math.MinInt, -1, 0, 1, 8, 9, 1000, math.MaxInt} {
			if l := synth.Enough(n, props); l != want {
				t.Errorf("Enough(%d, %d): %+v, want %+v", n, props, l, want)
			}
		}
	}
	for n, want := range map[int]api.Limits{
		0:  {Text: 65536, Nodes: 1000, Depth: 100, Props: 8, Splits: 8, Tableau: 65536, States: 2147483647},
		1:  {Text: 65536, Nodes: 1000, Depth: 100, Props: 8, Splits: 8, Tableau: 65536, States: 2147483647},
		2:  {Text: 65536, Nodes: 1000, Depth: 100, Props: 8, Splits: 16, Tableau: 2147483647, States: 2147483647},
		28: {Text: 65536, Nodes: 1000, Depth: 100, Props: 8, Splits: 1073741824, Tableau: 2147483647, States: 2147483647},
		29: {Text: 65536, Nodes: 1000, Depth: 100, Props: 8, Splits: 2147483647, Tableau: 2147483647, States: 2147483647},
	} {
		if l := synth.Enough(n, 3); l != want {
			t.Errorf("Enough(%d): %+v, want %+v", n, l, want)
		}
	}
}
