package flow_test

import (
	"testing"

	"soffit/api"
)

// P12.2, P12.3, P12.4: code of one instruction.
func TestOne(t *testing.T) {
	for _, op := range operations() {
		for _, n := range []int64{0, 1, -1, least, most, 1 << 32} {
			x := api.Ins{Op: op, N: n}
			var edges []pair
			if kind := kindOf(op); n == 0 && (kind == named || kind == both) {
				edges = []pair{{0, 0}}
			}
			graph(t, "one instruction", of(x), []int{0}, edges, []int{0})
		}
	}
}

// P12.2: an instruction leads on, or it doesn't: behind each operation.
func TestBehindEach(t *testing.T) {
	for _, op := range operations() {
		x := api.Ins{Op: op, N: 2}
		switch kindOf(op) {
		case nowhere:
			graph(t, "nowhere", of(x, ret, ret), []int{0}, nil, []int{0})
		case behind:
			graph(t, "behind", of(x, ret, ret), []int{0, 1}, []pair{{0, 1}}, []int{0})
		case named:
			graph(t, "named", of(x, ret, ret), []int{0, 2}, []pair{{0, 2}}, []int{0, 2})
		case both:
			graph(t, "both", of(x, ret, ret), []int{0, 1, 2}, []pair{{0, 1}, {0, 2}}, []int{0, 1, 2})
		}
	}
}

// P12.2, P12.3, P12.4: functions by hand.
func TestByHand(t *testing.T) {
	for _, c := range []struct {
		what    string
		f       api.Func
		reached []int
		edges   []pair
		blocks  []int
	}{
		{"nothing but the first, by a ret", of(ret, set, jump(0), jump(3)), []int{0}, nil, []int{0}},
		{"nothing but the first, by a jump to itself", of(jump(0), set, jump(1)), []int{0}, []pair{{0, 0}}, []int{0}},
		{"nothing but the first, by a jump off the code", of(jump(9), set, ret), []int{0}, nil, []int{0}},
		{"nothing but the first, by a step below 0", of(step(-1), set, ret), []int{0}, nil, []int{0}},
		{"nothing but the first, by what is no operation", of(api.Ins{Op: 20, N: 1}, set, ret), []int{0}, nil, []int{0}},
		{"all, in a row", of(set, set, set, ret), upTo(4), row(4), []int{0}},
		{"all, by jumps forwards and backwards", of(jump(3), jump(2), ret, jump(1)), upTo(4), []pair{{0, 3}, {1, 2}, {3, 1}}, []int{0, 1, 3}},
		{"all, by branches", of(when(4), set, unless(5), ret, ret, ret), upTo(6), []pair{{0, 1}, {0, 4}, {1, 2}, {2, 3}, {2, 5}}, []int{0, 1, 3, 4, 5}},
		{"all but the last", of(set, set, ret, ret), []int{0, 1, 2}, row(3), []int{0}},
		{"all but one in the middle", of(set, jump(3), set, set, ret), []int{0, 1, 3, 4}, []pair{{0, 1}, {1, 3}, {3, 4}}, []int{0, 3}},
		{"all but the second", of(jump(2), jump(0), ret), []int{0, 2}, []pair{{0, 2}}, []int{0, 2}},
		{"what leads to one that can be reached, but can't be", of(set, jump(4), set, jump(4), ret), []int{0, 1, 4}, []pair{{0, 1}, {1, 4}}, []int{0, 4}},
		{"two that lead to one another alone", of(ret, jump(2), jump(1)), []int{0}, nil, []int{0}},
		{"loops within one another", nested(), upTo(12), []pair{
			{0, 1}, {0, 11}, {1, 2}, {2, 3}, {2, 10}, {3, 4}, {4, 5}, {4, 9}, {5, 6}, {5, 8}, {6, 7}, {6, 10}, {7, 8}, {8, 4}, {9, 2}, {10, 0},
		}, []int{0, 1, 2, 3, 4, 5, 6, 7, 8, 9, 10, 11}},
		{"a loop with a long body", of(set, set, count(7), set, set, set, step(2), set, ret), upTo(9), []pair{
			{0, 1}, {1, 2}, {2, 3}, {2, 7}, {3, 4}, {4, 5}, {5, 6}, {6, 2}, {7, 8},
		}, []int{0, 2, 3, 7}},
		{"a loop without a head", of(when(2), jump(2), jump(1)), upTo(3), []pair{{0, 1}, {0, 2}, {1, 2}, {2, 1}}, []int{0, 1, 2}},
		{"back to the first", of(set, set, jump(0)), upTo(3), []pair{{0, 1}, {1, 2}, {2, 0}}, []int{0}},
		{"backwards twice over", of(jump(2), ret, set, jump(5), jump(1), set, jump(4)), upTo(7), []pair{
			{0, 2}, {2, 3}, {3, 5}, {4, 1}, {5, 6}, {6, 4},
		}, []int{0, 1, 2, 4, 5}},
		{"runs off the end", of(set, set, set), upTo(3), row(3), []int{0}},
		{"runs off the end behind a branch", of(set, when(0)), upTo(2), []pair{{0, 1}, {1, 0}}, []int{0}},
		{"runs off the end by both branches", of(set, count(2)), upTo(2), row(2), []int{0}},
		{"runs off the end by a target", of(set, jump(3), set), []int{0, 1}, row(2), []int{0}},
		{"a branch to the next one", of(when(1), unless(2), count(3), ret), upTo(4), row(4), []int{0}},
		{"a jump to the next one", of(jump(1), step(2), jump(3), ret), upTo(4), row(4), []int{0}},
	} {
		graph(t, c.what, c.f, c.reached, c.edges, c.blocks)
	}
}

// P12.2: whatever number of instructions, forwards and backwards, ways apart and together: a search of any depth ends.
func TestLongWays(t *testing.T) {
	for _, length := range []int{2, 3, 100, 1023, 1024} {
		last := int64(length - 1)
		graph(t, "a row", of(append(times(length-1, set), ret)...), upTo(length), row(length), []int{0})
		backwards := []api.Ins{jump(last)}
		for i := range length - 1 {
			backwards = append(backwards, jump(int64(i)))
		}
		graph(t, "backwards", of(backwards...), upTo(length), collectJumps(backwards), blocksBackwards(length))
		branches := append(times(length-1, when(last)), ret)
		var edges []pair
		for i := range length - 1 {
			edges = append(edges, pair{i, i + 1})
			if i+1 != length-1 {
				edges = append(edges, pair{i, length - 1})
			}
		}
		blocks := upTo(length)
		if length == 2 {
			blocks = []int{0}
		}
		graph(t, "branches", of(branches...), upTo(length), edges, blocks)
	}
}

func collectJumps(code []api.Ins) []pair {
	var l []pair
	for u, x := range code {
		l = append(l, pair{u, int(x.N)})
	}
	return l
}

// blocksBackwards are the blocks of code that jumps to its last instruction, and from there back by one each: each of its own, but where the last one is the second one.
func blocksBackwards(length int) []int {
	if length == 2 {
		return []int{0}
	}
	return upTo(length)
}
