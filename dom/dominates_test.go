package dom_test

import (
	"slices"
	"testing"

	"soffit/api"
	"soffit/dom"
)

// beside are numbers that are no instruction's of such code: below 0, its length and beyond, some an instruction's but for their upper bits.
func beside(length int) []int {
	return []int{-1, -2, -length, -length - 1, length, length + 1, length + 63, length + 64, 1023 + length, 1024 + length, 1 << 31, 1 << 32, 1<<32 + 1, -1 << 32, most, most - 1, least, least + 1}
}

// P13.1: what can be reached dominates itself, and is dominated by 0.
func TestItselfAndFirst(t *testing.T) {
	for _, c := range byHand() {
		for v := range c.f.Code {
			can := v == 0 || c.want[v] >= 0
			dominates(t, c.f, v, v, can)
			dominates(t, c.f, 0, v, can)
			if v != 0 {
				dominates(t, c.f, v, 0, false)
			}
		}
	}
}

// P13.1: what can't be reached dominates nothing, and nothing dominates it.
func TestNotReached(t *testing.T) {
	for _, c := range byHand() {
		for v := range c.f.Code {
			if v == 0 || c.want[v] >= 0 {
				continue
			}
			for other := range c.f.Code {
				dominates(t, c.f, v, other, false)
				dominates(t, c.f, other, v, false)
			}
		}
	}
}

// P13.1: numbers that are no instruction's, in the first place, the second, and both.
func TestBeside(t *testing.T) {
	functions := []api.Func{of(), of(ret), of(jump(0)), sample(), nested(), of(times(64, set)...), of(times(65, set)...), of(times(1023, set)...), of(times(1024, set)...)}
	for _, f := range functions {
		length := len(f.Code)
		for _, n := range beside(length) {
			for _, v := range []int{0, 1, length / 2, length - 1} {
				dominates(t, f, n, v, false)
				dominates(t, f, v, n, false)
			}
			dominates(t, f, n, n, false)
			dominates(t, f, n, -1, false)
			dominates(t, f, length, n, false)
		}
	}
}

// P13.1: an instruction's number must be told exactly: of 1024 in a row each one dominates itself and all behind it, and none ahead of it.
func TestEachOfMany(t *testing.T) {
	f := of(times(1024, set)...)
	places := []int{0, 1, 31, 32, 62, 63, 64, 65, 127, 128, 129, 511, 512, 513, 959, 960, 1022, 1023}
	for _, a := range places {
		for _, b := range places {
			dominates(t, f, a, b, a <= b)
		}
	}
}

// P13.1: pairs by hand: those that dominate each instruction.
func TestPairs(t *testing.T) {
	for _, c := range []struct {
		what string
		f    api.Func
		want [][]int
	}{
		{"loops within one another", nested(), [][]int{
			{0}, {0, 1}, {0, 1, 2}, {0, 1, 2, 3}, {0, 1, 2, 3, 4}, {0, 1, 2, 3, 4, 5}, {0, 1, 2, 3, 4, 5, 6}, {0, 1, 2, 3, 4, 5, 6, 7},
			{0, 1, 2, 3, 4, 5, 8}, {0, 1, 2, 3, 4, 9}, {0, 1, 2, 10}, {0, 11},
		}},
		{"branches that meet again", of(when(3), set, jump(4), set, ret), [][]int{{0}, {0, 1}, {0, 1, 2}, {0, 3}, {0, 4}}},
		{"a loop that is entered at two places", of(when(3), set, set, set, when(2), ret), [][]int{{0}, {0, 1}, {0, 2}, {0, 3}, {0, 3, 4}, {0, 3, 4, 5}}},
		{"backwards, with what can't be reached", of(jump(3), set, ret, jump(2), jump(2)), [][]int{{0}, nil, {0, 2, 3}, {0, 3}, nil}},
		{"two that lead to one another", of(when(2), jump(3), jump(3), jump(1)), [][]int{{0}, {0, 1}, {0, 2}, {0, 3}}},
	} {
		for b := range c.f.Code {
			for a := range c.f.Code {
				if dom.Dominates(c.f, a, b) != slices.Contains(c.want[b], a) {
					t.Errorf("%s: Dominates of %d and %d: %v", c.what, a, b, !slices.Contains(c.want[b], a))
				}
			}
		}
	}
}
