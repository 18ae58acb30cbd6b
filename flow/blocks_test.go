package flow_test

import (
	"slices"
	"testing"

	"soffit/api"
	"soffit/flow"
)

// P12.4: for what an instruction begins a block, and for what not.
func TestBlocks(t *testing.T) {
	for _, c := range []struct {
		what   string
		f      api.Func
		blocks []int
	}{
		{"one edge, from the one ahead, which leads nowhere else", of(set, set, ret), []int{0}},
		{"the same by a jump", of(set, jump(2), ret), []int{0}},
		{"the same by a step", of(set, step(2), ret), []int{0}},
		{"the same by an if", of(set, when(2), ret), []int{0}},
		{"the same by an unless", of(set, unless(2), ret), []int{0}},
		{"the same by a count", of(set, count(2), ret), []int{0}},
		{"the same by an if whose other way is none", of(set, when(9), ret), []int{0}},
		{"the same by an unless whose other way is below 0", of(set, unless(-1), ret), []int{0}},
		{"two edges meet: from ahead and from behind", of(set, set, set, jump(1)), []int{0, 1}},
		{"two edges meet: from ahead and from itself by an if", of(set, when(1), ret), []int{0, 1, 2}},
		{"two edges meet: from ahead and from itself by a jump", of(set, jump(1)), []int{0, 1}},
		{"two edges meet: both from elsewhere", of(when(3), jump(4), set, jump(4), ret), []int{0, 1, 3, 4}},
		{"two edges meet: from ahead and from further ahead", of(when(3), set, set, ret), []int{0, 1, 3}},
		{"three edges meet", of(when(4), when(4), when(4), set, ret), []int{0, 1, 2, 3, 4}},
		{"one edge, from elsewhere ahead", of(jump(2), ret, set, ret), []int{0, 2}},
		{"one edge, from behind", of(jump(2), ret, jump(1)), []int{0, 1, 2}},
		{"one edge, from elsewhere, while the one ahead can't be reached and would lead there", of(jump(2), set, ret), []int{0, 2}},
		{"one edge, from elsewhere, while the one ahead ends", of(when(3), set, ret, set, ret), []int{0, 1, 3}},
		{"the one ahead leads to two places", of(when(2), set, ret), []int{0, 1, 2}},
		{"the one ahead leads to two places, the other one itself", of(set, when(1), set, ret), []int{0, 1, 2}},
		{"the one ahead leads to two places, the other one the first", of(set, when(0), set, ret), []int{0, 2}},
		{"an edge from what can't be reached is none", of(set, set, ret, jump(1)), []int{0}},
		{"edges from what can't be reached are none", of(set, set, jump(5), when(1), jump(2), set, ret, jump(6)), []int{0, 5}},
		{"what can't be reached begins none", of(ret, set, jump(2), when(1)), []int{0}},
		{"the first one, to which one edge leads", of(set, jump(0)), []int{0}},
		{"the first one, to which many lead", of(when(0), when(0), jump(0)), []int{0, 1, 2}},
		{"a loop of one block", of(set, set, set, jump(0)), []int{0}},
		{"what is no operation ends a block", of(when(2), api.Ins{Op: 20}, set, ret), []int{0, 1, 2}},
		{"the example", sample(), []int{0, 1, 2, 3, 4}},
		{"loops within one another", nested(), upTo(12)},
	} {
		if l := flow.Blocks(c.f); !slices.Equal(l, c.blocks) {
			t.Errorf("%s: %v, not %v", c.what, l, c.blocks)
		}
	}
}

// P12.4: each operation ahead of an instruction, with a target elsewhere, at the instruction and at no place.
func TestBlocksBehindEach(t *testing.T) {
	for _, op := range operations() {
		for n, want := range map[int64][4][]int{
			// Of nowhere, behind, named, both.
			0:    {{0}, {0}, {0}, {0, 2}},
			1:    {{0}, {0}, {0, 1}, {0, 1, 2}},
			2:    {{0}, {0}, {0}, {0}},
			3:    {{0}, {0}, {0, 3}, {0, 2, 3}},
			4:    {{0}, {0}, {0}, {0}},
			-1:   {{0}, {0}, {0}, {0}},
			most: {{0}, {0}, {0}, {0}},
		} {
			f := of(set, api.Ins{Op: op, N: n}, set, ret)
			if n == 3 {
				f.Code[2] = ret
			}
			if l := flow.Blocks(f); !slices.Equal(l, want[kindOf(op)]) {
				t.Errorf("%d with the target %d: %v, not %v", op, n, l, want[kindOf(op)])
			}
		}
	}
}
