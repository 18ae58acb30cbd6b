package dom_test

import (
	"testing"

	"soffit/api"
)

// P13.2: code of one instruction, whatever it is, and whether it leads to itself or not.
func TestTreeOfOne(t *testing.T) {
	for op := -2; op < 23; op++ {
		for _, n := range []int64{0, 1, -1, least, most} {
			tree(t, "one instruction", of(api.Ins{Op: op, N: n}), -1)
		}
	}
}

// byHand are functions and their nearest dominators.
func byHand() []struct {
	what string
	f    api.Func
	want []int
} {
	return []struct {
		what string
		f    api.Func
		want []int
	}{
		{"no code", of(), nil},
		{"one that leads to itself by a branch", of(when(0), ret), []int{-1, 0}},
		{"a later one that leads to itself", of(set, unless(1), ret), []int{-1, 0, 1}},
		{"in a row", of(set, set, set, ret), []int{-1, 0, 1, 2}},
		{"in a row, by jumps", of(jump(1), step(2), jump(3), ret), []int{-1, 0, 1, 2}},
		{"in a row, by branches to the next one", of(when(1), unless(2), count(3), ret), []int{-1, 0, 1, 2}},
		{"in a row that runs off the end", of(set, set, when(7)), []int{-1, 0, 1}},
		{"one branch passes one by", of(when(2), set, ret), []int{-1, 0, 0}},
		{"branches that meet again", of(when(3), set, jump(4), set, ret), []int{-1, 0, 1, 0, 0}},
		{"branches that meet again, twice", of(unless(3), set, jump(4), set, when(7), set, jump(8), set, ret), []int{-1, 0, 1, 0, 0, 4, 5, 4, 4}},
		{"branches within a branch", of(when(6), when(4), set, jump(5), set, jump(7), set, ret), []int{-1, 0, 1, 2, 1, 1, 0, 0}},
		{"branches that meet far behind", of(when(4), set, set, jump(7), set, set, set, set, ret), []int{-1, 0, 1, 2, 0, 4, 5, 0, 7}},
		{"branches that do not meet", of(when(3), set, ret, set, ret), []int{-1, 0, 1, 0, 3}},
		{"three that meet", of(when(4), when(5), set, jump(6), jump(6), jump(6), ret), []int{-1, 0, 1, 2, 0, 1, 0}},
		{"branches that lead to one another", of(when(2), jump(2), jump(1)), []int{-1, 0, 0}},
		{"branches that lead to one another, and on", of(when(3), set, when(5), set, jump(1), ret), []int{-1, 0, 1, 0, 3, 2}},
		{"branches that lead to one another in the middle", of(when(4), set, unless(5), ret, set, when(2), ret), []int{-1, 0, 0, 2, 0, 0, 5}},
		{"two pairs that lead to one another", of(when(4), set, when(5), jump(6), set, when(2), when(3), ret), []int{-1, 0, 0, 0, 0, 0, 0, 6}},
		{"a loop", of(set, count(4), set, step(1), ret), []int{-1, 0, 1, 2, 1}},
		{"a loop with two ways back", of(count(5), when(4), set, step(0), step(0), ret), []int{-1, 0, 1, 2, 1, 0}},
		{"a loop that is left at two places", of(set, count(5), when(5), set, step(1), ret), []int{-1, 0, 1, 2, 3, 1}},
		{"loops within one another", nested(), []int{-1, 0, 1, 2, 3, 4, 5, 6, 5, 4, 2, 0}},
		{"a loop behind a loop", of(count(3), set, step(0), count(6), set, step(3), ret), []int{-1, 0, 1, 0, 3, 4, 3}},
		{"a loop that is entered at two places", of(when(3), set, set, set, when(2), ret), []int{-1, 0, 0, 0, 3, 4}},
		{"a loop that is entered at its head and its end", of(when(4), set, count(5), set, step(2), ret), []int{-1, 0, 0, 2, 0, 2}},
		{"a loop that is entered at two places, within another one", of(count(7), when(4), set, set, set, when(3), step(0), ret), []int{-1, 0, 1, 1, 1, 4, 5, 0}},
		{"back to the first one", of(set, set, jump(0)), []int{-1, 0, 1}},
		{"back to the first one from both branches", of(set, when(3), jump(0), jump(0)), []int{-1, 0, 1, 1}},
		{"backwards", of(jump(3), ret, jump(1), jump(2)), []int{-1, 2, 3, 0}},
		{"backwards, with a branch", of(jump(2), ret, when(1), jump(1)), []int{-1, 2, 0, 2}},
		{"backwards, and together", of(jump(5), ret, jump(1), jump(1), set, when(3), jump(2)), []int{-1, 5, 6, 5, -1, 0, 5}},
		{"the last leads into the middle", of(jump(4), set, set, ret, when(2), jump(1)), []int{-1, 5, 4, 2, 0, 4}},
		{"nothing but the first, by a ret", of(ret, set, jump(0), jump(3)), []int{-1, -1, -1, -1}},
		{"nothing but the first, by a target that is none", of(jump(9), set, ret), []int{-1, -1, -1}},
		{"nothing but the first, by what is no operation", of(api.Ins{Op: 20, N: 1}, set, ret), []int{-1, -1, -1}},
		{"all but one in the middle", of(set, jump(3), set, set, ret), []int{-1, 0, -1, 1, 3}},
		{"what can't be reached leads to what can", of(set, jump(4), set, jump(4), ret), []int{-1, 0, -1, -1, 1}},
		{"what can't be reached leads to the first one", of(set, ret, jump(0), when(1), set), []int{-1, 0, -1, -1, -1}},
		{"what can't be reached leads into a loop", of(count(5), set, step(0), jump(1), when(2), ret), []int{-1, 0, 1, -1, -1, 0}},
		{"what can't be reached comes first, and leads to all behind it", of(jump(4), when(4), when(5), when(6), set, set, ret), []int{-1, -1, -1, -1, 0, 4, 5}},
		{"two that lead to one another alone", of(ret, jump(2), jump(1)), []int{-1, -1, -1}},
		{"what can't be reached, in a row with itself", of(set, ret, set, set, jump(2)), []int{-1, 0, -1, -1, -1}},
	}
}

// P13.2: functions by hand.
func TestByHand(t *testing.T) {
	for _, c := range byHand() {
		tree(t, c.what, c.f, c.want...)
	}
}

// lengths are those of long ways, from the shortest that has one to the most instructions that there may be, with those around a word of bits.
var lengths = []int{3, 4, 10, 63, 64, 65, 66, 127, 128, 129, 500, 1023, 1024}

// P13.2: one behind the other, forwards.
func TestForwards(t *testing.T) {
	for _, length := range lengths {
		var want []int
		for i := range length {
			want = append(want, i-1)
		}
		tree(t, "a row", of(append(times(length-1, set), ret)...), want...)
		tree(t, "a row that goes round", of(append(times(length-1, set), jump(0))...), want...)
		tree(t, "a row of branches to the first one", of(append(times(length-1, when(0)), ret)...), want...)
		tree(t, "a row of branches back by one", of(zipper(length, set)...), want...)
	}
}

// zipper is a beginning, and behind it instructions each of which leads to the one behind it and the one ahead of it.
func zipper(length int, first api.Ins) []api.Ins {
	code := []api.Ins{first}
	for i := 1; i < length; i++ {
		code = append(code, when(int64(i-1)))
	}
	return code
}

// P13.2: jumps backwards, one behind the other: each round over the instructions finds one more.
func TestBackwards(t *testing.T) {
	for _, length := range lengths {
		code, want := []api.Ins{jump(int64(length - 1))}, []int{-1}
		for i := 1; i < length; i++ {
			code, want = append(code, jump(int64(i-1))), append(want, i+1)
		}
		want[length-1] = 0
		tree(t, "backwards", of(code...), want...)
	}
}

// P13.2: a chain that is gone through both ways and entered at both ends: that the other end leads there, too, is found only after as many rounds as the chain is long.
func TestBothEnds(t *testing.T) {
	for _, length := range lengths {
		code := zipper(length, when(int64(length-1)))
		want := []int{-1}
		for range length - 1 {
			want = append(want, 0)
		}
		tree(t, "both ends", of(code...), want...)
	}
}

// P13.2: jumps backwards over all instructions and forwards again, so that what dominates the middle is known last.
func TestToAndFro(t *testing.T) {
	for _, length := range []int{4, 6, 10, 64, 66, 128, 130, 500, 1024} {
		code, want := make([]api.Ins, length), make([]int, length)
		order := []int{0}
		for low, high := 1, length-1; low <= high; low, high = low+1, high-1 {
			order = append(order, high)
			if low < high {
				order = append(order, low)
			}
		}
		want[0] = -1
		for i, v := range order {
			code[v] = ret
			if i+1 < len(order) {
				code[v] = jump(int64(order[i+1]))
				want[order[i+1]] = v
			}
		}
		tree(t, "to and fro", of(code...), want...)
	}
}

// P13.2: many branches to one place, forwards and backwards: the first of them, or what all of them have in common, is nearest.
func TestManyBranches(t *testing.T) {
	for _, length := range lengths {
		last := int64(length - 1)
		var want []int
		for i := range length {
			want = append(want, i-1)
		}
		want[last] = 0
		tree(t, "branches to the last one", of(append(times(length-1, when(last)), ret)...), want...)
	}
	// Rows of three: a branch, what it passes by, and what both lead to.
	for _, rows := range []int{1, 2, 21, 22, 43, 341} {
		var code []api.Ins
		var want []int
		for i := range rows {
			at := 3 * i
			code = append(code, when(int64(at+2)), set, set)
			want = append(want, at-1, at, at)
		}
		tree(t, "branches that meet again, many times", of(code...), want...)
	}
}
