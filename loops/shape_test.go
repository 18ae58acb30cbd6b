package loops_test

import (
	"testing"

	"soffit/api"
)

// three are loops within one another, the innermost with a way out to the outermost one's end.
func three() api.Func {
	return of(count(0, 1, 11), set(2), count(2, 3, 10), set(4), count(4, 5, 9), when(8), when(10), pass, step(4, 4), step(2, 2), step(0, 0), ret)
}

func threeLoops() []api.Loop {
	// 6 leads out to 10 and goes on to 7: it is the innermost one's.
	return []api.Loop{loop(0, -1, upFrom(0, 10), 10), loop(2, 0, upFrom(2, 9), 9), loop(4, 1, upFrom(4, 8), 8)}
}

// four are loops within one another: the first one is the fourth one's through two others.
func four() api.Func {
	return of(count(0, 9, 12), set(1), count(1, 9, 11), set(2), count(2, 9, 10), set(3), count(3, 9, 9), pass, step(3, 6), step(2, 4), step(1, 2), step(0, 0), ret)
}

func fourLoops() []api.Loop {
	return []api.Loop{loop(0, -1, upFrom(0, 11), 11), loop(2, 0, upFrom(2, 10), 10), loop(4, 1, upFrom(4, 9), 9), loop(6, 2, upFrom(6, 8), 8)}
}

// shape is a function whose loops count, and these.
type shape struct {
	what string
	f    api.Func
	want []api.Loop
}

func shapes() []shape {
	return []shape{
		{"no code", of(), nil},
		{"one instruction", of(ret), nil},
		{"one that runs off the end", of(set(0)), nil},
		{"a row", of(set(0), set(1), pass, ret), nil},
		{"branches that meet again", of(when(3), set(0), jump(4), set(1), ret), nil},
		{"jumps backwards that come to an end", of(jump(3), ret, jump(1), jump(2)), nil},
		{"a branch backwards to what isn't around it", of(jump(3), pass, ret, when(1), jump(2)), nil},
		{"a count that counts nothing", of(count(0, 1, 2), step(0, 2), ret), nil},
		{"a count by which the next one follows anyhow", of(count(0, 1, 1), ret), nil},
		{"the shortest loop", of(count(0, 1, 2), step(0, 0), ret), []api.Loop{loop(0, -1, []int{0, 1}, 1)}},
		{"the shortest loop, and nothing to go out to", of(count(0, 1, 2), step(0, 0)), []api.Loop{loop(0, -1, []int{0, 1}, 1)}},
		{"a loop that lies backwards", of(jump(3), ret, step(0, 3), count(0, 1, 1), jump(2)), []api.Loop{loop(3, -1, []int{2, 3, 4}, 2)}},
		{"a loop whose members are not in a row", of(jump(2), ret, count(0, 1, 1), jump(6), pass, step(0, 2), when(4), jump(5)), []api.Loop{loop(2, -1, upFrom(2, 7), 5)}},
		{"a loop behind a beginning", of(set(0), set(1), count(0, 1, 5), pass, step(0, 2), ret), []api.Loop{loop(2, -1, upFrom(2, 4), 4)}},
		{"a loop that is left by a branch", of(count(0, 1, 4), when(5), pass, step(0, 0), ret, ret), []api.Loop{loop(0, -1, upFrom(0, 3), 3)}},
		{"a way out of a loop that is no member", of(count(0, 1, 6), when(4), pass, step(0, 0), set(0), set(1), ret), []api.Loop{loop(0, -1, upFrom(0, 3), 3)}},
		{"a ret in a loop", of(count(0, 1, 5), when(3), ret, pass, step(0, 0), ret), []api.Loop{loop(0, -1, []int{0, 1, 3, 4}, 4)}},
		{"two back edges to one head", of(count(0, 1, 4), when(3), step(0, 0), step(0, 0), ret), []api.Loop{loop(0, -1, upFrom(0, 3), 2, 3)}},
		{"two back edges, of lesser number the later one", of(jump(4), step(0, 4), ret, step(0, 4), count(0, 1, 2), when(1), jump(3)), []api.Loop{loop(4, -1, []int{1, 3, 4, 5, 6}, 1, 3)}},
		{"four back edges to one head", of(set(0), count(0, 1, 9), when(7), when(6), when(8), step(0, 1), step(0, 1), step(0, 1), step(0, 1), ret), []api.Loop{loop(1, -1, upFrom(1, 8), 5, 6, 7, 8)}},
		{"loops side by side", row(), rowLoops()},
		{"loops side by side, the way out of one the other's head", of(count(0, 1, 2), step(0, 0), count(2, 3, 4), step(2, 2), ret), []api.Loop{loop(0, -1, []int{0, 1}, 1), loop(2, -1, []int{2, 3}, 3)}},
		{"loops in two branches", of(when(4), count(0, 1, 3), step(0, 1), ret, count(0, 1, 6), step(0, 4), ret), []api.Loop{loop(1, -1, []int{1, 2}, 2), loop(4, -1, []int{4, 5}, 5)}},
		{"a loop within another", pair(), []api.Loop{loop(0, -1, upFrom(0, 5), 5), loop(2, 0, upFrom(2, 4), 4)}},
		{"a loop within another, whose way out is its step", of(count(0, 1, 4), count(2, 3, 3), step(2, 1), step(0, 0), ret), []api.Loop{loop(0, -1, upFrom(0, 3), 3), loop(1, 0, []int{1, 2}, 2)}},
		{"loops within one another", three(), threeLoops()},
		{"four loops within one another", four(), fourLoops()},
		{"the one within has the lesser head", of(jump(3), count(2, 3, 5), step(2, 1), count(0, 1, 6), jump(1), step(0, 3), ret), []api.Loop{loop(1, 1, []int{1, 2}, 2), loop(3, -1, upFrom(1, 5), 5)}},
		{"two within one", of(count(0, 1, 7), set(2), count(2, 3, 4), step(2, 2), count(4, 5, 6), step(4, 4), step(0, 0), ret), []api.Loop{loop(0, -1, upFrom(0, 6), 6), loop(2, 0, []int{2, 3}, 3), loop(4, 0, []int{4, 5}, 5)}},
		{"one within the second of two", of(count(0, 1, 2), step(0, 0), count(2, 3, 7), set(4), count(4, 5, 6), step(4, 4), step(2, 2), ret), []api.Loop{loop(0, -1, []int{0, 1}, 1), loop(2, -1, upFrom(2, 6), 6), loop(4, 1, []int{4, 5}, 5)}},
		{"a loop that is left to the head of the one around it", of(count(0, 1, 6), set(2), count(2, 3, 5), when(5), step(2, 2), step(0, 0), ret), []api.Loop{loop(0, -1, upFrom(0, 5), 5), loop(2, 0, []int{2, 3, 4}, 4)}},
		{"a way back of the one around it from the one within", of(count(0, 1, 7), set(2), count(2, 3, 6), when(5), step(2, 2), step(0, 0), step(0, 0), ret), []api.Loop{loop(0, -1, upFrom(0, 6), 5, 6), loop(2, 0, []int{2, 3, 4}, 4)}},
		{"the ways back of two loops, one behind the other by number", of(count(0, 1, 8), set(2), count(2, 3, 7), when(5), step(2, 2), when(7), step(2, 2), step(0, 0), ret), []api.Loop{loop(0, -1, upFrom(0, 7), 7), loop(2, 0, upFrom(2, 6), 4, 6)}},
		{"both count the same register", of(count(0, 1, 2), step(0, 0), set(0), count(0, 1, 5), step(0, 3), ret), []api.Loop{loop(0, -1, []int{0, 1}, 1), loop(3, -1, []int{3, 4}, 4)}},
		{"both have the same bound", of(count(0, 1, 5), set(2), count(2, 1, 4), step(2, 2), step(0, 0), ret), []api.Loop{loop(0, -1, upFrom(0, 4), 4), loop(2, 0, []int{2, 3}, 3)}},
		{"the bound is the count of the one around it", of(count(0, 1, 5), set(2), count(2, 0, 4), step(2, 2), step(0, 0), ret), []api.Loop{loop(0, -1, upFrom(0, 4), 4), loop(2, 0, []int{2, 3}, 3)}},
		{"a count that is no head, in a loop", of(count(0, 1, 4), count(2, 3, 3), pass, step(0, 0), ret), []api.Loop{loop(0, -1, upFrom(0, 3), 3)}},
		{"a step that leads on, in a loop", of(count(0, 1, 4), step(2, 2), pass, step(0, 0), ret), []api.Loop{loop(0, -1, upFrom(0, 3), 3)}},
		{"the count's own registers are written ahead of it and behind it", of(set(0), set(1), count(0, 1, 4), step(0, 2), set(0), set(1), ret), []api.Loop{loop(2, -1, []int{2, 3}, 3)}},
		{"the bound is read", of(count(0, 1, 3), api.Ins{Op: api.OpAdd, A: 2, B: 1, C: 0}, step(0, 0), ret), []api.Loop{loop(0, -1, upFrom(0, 2), 2)}},
		{"the count and bound stand in fields that are not written", of(count(0, 1, 5), api.Ins{Op: api.OpStore, A: 0, B: 1}, api.Ins{Op: api.OpCheck, A: 1, N: 3}, api.Ins{Op: api.OpIf, A: 0, N: 4}, step(0, 0), ret), []api.Loop{loop(0, -1, upFrom(0, 4), 4)}},
	}
}

// P14.1: functions whose loops count.
func TestShapes(t *testing.T) {
	for _, c := range shapes() {
		found(t, c.what, c.f, c.want...)
	}
}

// P14.1: what can't be reached has no loops, and is no member of one; nothing that is wrong there is told.
func TestNotReached(t *testing.T) {
	for _, c := range []shape{
		{"a jump to itself", of(ret, jump(1)), nil},
		{"a loop that counts", of(ret, count(0, 1, 3), step(0, 1), ret), nil},
		{"a loop that jumps back", of(ret, pass, jump(1)), nil},
		{"a round way with two ways in", of(ret, when(3), jump(3), jump(2)), nil},
		{"back to the first one", of(pass, ret, jump(0)), nil},
		{"back to the middle", of(pass, pass, ret, step(0, 1)), nil},
		{"into a loop", of(count(0, 1, 5), pass, step(0, 0), jump(1), when(2), ret), []api.Loop{loop(0, -1, upFrom(0, 2), 2)}},
		{"to a loop's head, without a step", of(count(0, 1, 4), step(0, 0), jump(0), when(0), ret), []api.Loop{loop(0, -1, []int{0, 1}, 1)}},
		{"writes, and goes into the loop", of(count(0, 1, 5), jump(4), set(0), set(1), step(0, 0), ret), []api.Loop{loop(0, -1, []int{0, 1, 4}, 4)}},
		{"within a loop's numbers a loop of its own", of(count(0, 1, 6), jump(5), pass, jump(3), jump(2), step(0, 0), ret), []api.Loop{loop(0, -1, []int{0, 1, 5}, 5)}},
	} {
		found(t, c.what, c.f, c.want...)
	}
}

// P14.1: targets that are no instruction's lead nowhere: they make no loop, no way back and no way out that is a member.
func TestTargetsBeside(t *testing.T) {
	for _, n := range []int64{-1, -2, -3, 3, 4, 1023, 1024, 1025, 1 << 31, 1 << 32, 1<<32 + 1, -1 << 32, most, least, least + 1} {
		one := loop(0, -1, []int{0, 1}, 1)
		found(t, "a count's way out", of(count(0, 1, n), step(0, 0), ret), one)
		found(t, "a jump", of(pass, pass, jump(n)))
		found(t, "a step", of(count(0, 1, n), pass, step(0, n)))
		found(t, "a branch", of(count(0, 1, 2), pass, when(n)))
		found(t, "a branch out of a loop", of(count(0, 1, n), when(n), step(0, 0)), loop(0, -1, upFrom(0, 2), 2))
		refused(t, "a branch in a loop that jumps back", of(count(0, 1, n), unless(n), jump(0)), api.ErrBack, 2)
	}
}
