package loops_test

import (
	"testing"

	"soffit/api"
)

// P14.1: one instruction that leads to itself: whatever it is, it is a head.
func TestToItself(t *testing.T) {
	refused(t, "a jump", of(jump(0)), api.ErrHead, 0)
	refused(t, "a step", of(step(0, 0)), api.ErrHead, 0)
	refused(t, "an if", of(when(0), ret), api.ErrHead, 0)
	refused(t, "an unless", of(unless(0), ret), api.ErrHead, 0)
	refused(t, "a count, which is no step", of(count(0, 1, 0), ret), api.ErrBack, 0)
	refused(t, "a later jump", of(pass, pass, jump(2)), api.ErrHead, 2)
	refused(t, "a later count", of(pass, count(0, 1, 1), ret), api.ErrBack, 1)
	refused(t, "the last of 1024", of(append(times(1023, pass), jump(1023))...), api.ErrHead, 1023)
	refused(t, "a count that leads to itself and is stepped back to", of(count(0, 1, 0), step(0, 0)), api.ErrBack, 0)
	refused(t, "a jump in a loop", of(count(0, 1, 4), when(3), jump(2), step(0, 0), ret), api.ErrHead, 2)
}

// P14.1: ErrReduce of ways round that are entered at two places, at their least instruction.
func TestReduce(t *testing.T) {
	for _, c := range []struct {
		what string
		f    api.Func
		at   int
	}{
		{"two that lead to one another", of(when(2), jump(2), jump(1)), 1},
		{"two that lead to one another, with others between", of(when(4), jump(4), ret, ret, jump(1)), 1},
		{"a loop that is entered behind its head", of(when(2), count(0, 1, 4), pass, step(0, 1), ret), 1},
		{"a loop that is entered at its head and its end", of(when(4), pass, count(0, 1, 5), pass, step(0, 2), ret), 2},
		{"three in a row, entered at the last", of(when(4), pass, pass, pass, when(2), ret), 2},
		{"three places in", of(when(4), when(5), pass, pass, pass, pass, jump(3)), 3},
		{"what leads there is less, and is not told", of(pass, pass, when(4), pass, pass, when(3), ret), 3},
		{"what leads from one to another is not told", of(when(2), jump(2), when(4), jump(5), jump(1), when(7), pass, jump(5), ret), 1},
		{"what lies between two", of(when(7), jump(5), when(4), jump(4), when(3), pass, when(2), when(5), ret), 3},
		{"two of them, the lesser one first by ways, too", of(when(3), pass, when(4), when(2), when(6), pass, when(5), ret), 2},
		{"two of them, the greater one first by ways", of(jump(5), when(3), pass, when(2), ret, when(7), pass, when(6), when(1), ret), 2},
		{"within a loop", of(count(0, 1, 7), when(4), pass, pass, pass, when(3), step(0, 0), ret), 3},
		{"around a loop", of(when(5), pass, count(0, 1, 4), step(0, 2), pass, when(1), ret), 1},
		{"backwards", of(jump(6), ret, jump(4), ret, when(2), ret, when(4), jump(2)), 2},
		{"the last ones of 1024", of(append(append([]api.Ins{when(1023)}, times(1022, pass)...), jump(1022))...), 1022},
		{"all but the first of 1024", of(append(append([]api.Ins{when(1023)}, times(1022, pass)...), jump(1))...), 1},
	} {
		refused(t, c.what, c.f, api.ErrReduce, c.at)
	}
}

// at are the four ways in which a loop does not count, each made of a function with one that does: by the places of its head, of the one behind it, of one that writes nothing and of its step, and by its registers.
type at struct{ head, next, pass, step, a, b int }

func (p at) wrong() []struct {
	what  string
	x     []any
	e     api.Errno
	place int
} {
	head, back := int64(p.head), int64(p.pass)
	return []struct {
		what  string
		x     []any
		e     api.Errno
		place int
	}{
		{"the head is an if", []any{p.head, when(int64(p.step) + 1)}, api.ErrHead, p.head},
		{"the head is an unless", []any{p.head, unless(int64(p.step) + 1)}, api.ErrHead, p.head},
		{"the head writes nothing", []any{p.head, pass}, api.ErrHead, p.head},
		{"the head is a step", []any{p.head, step(p.a, int64(p.next))}, api.ErrHead, p.head},
		{"the head is a jump", []any{p.head, jump(int64(p.next))}, api.ErrHead, p.head},
		{"a jump back", []any{p.step, jump(head)}, api.ErrBack, p.step},
		{"an if back", []any{p.step, when(head)}, api.ErrBack, p.step},
		{"an unless back", []any{p.step, unless(head)}, api.ErrBack, p.step},
		{"a count back", []any{p.step, count(p.a, p.b, head)}, api.ErrBack, p.step},
		{"a step of the bound back", []any{p.step, step(p.b, head)}, api.ErrBack, p.step},
		{"a step of another one back", []any{p.step, step(8, head)}, api.ErrBack, p.step},
		{"a step below 0 back", []any{p.step, step(-1, head)}, api.ErrBack, p.step},
		{"a second way back, by a jump", []any{p.pass, jump(head)}, api.ErrBack, p.pass},
		{"a second way back, by a step of another one", []any{p.pass, step(8, head)}, api.ErrBack, p.pass},
		{"two ways back, the lesser one told", []any{p.pass, jump(head), p.step, jump(head)}, api.ErrBack, p.pass},
		{"two ways back of which the first is right", []any{p.pass, step(p.a, head), p.step, jump(head)}, api.ErrBack, p.step},
		{"the count is set", []any{p.pass, set(p.a)}, api.ErrDrive, p.pass},
		{"the count is stepped", []any{p.pass, step(p.a, back+1)}, api.ErrDrive, p.pass},
		{"the bound is set", []any{p.pass, set(p.b)}, api.ErrDrive, p.pass},
		{"the bound is stepped", []any{p.pass, step(p.b, back+1)}, api.ErrDrive, p.pass},
		{"the bound is the count, and the way back steps it", []any{p.head, count(p.a, p.a, int64(p.step)+1)}, api.ErrDrive, p.step},
		{"the bound is the count, and two ways back step it", []any{p.head, count(p.a, p.a, int64(p.step)+1), p.pass, step(p.a, head)}, api.ErrDrive, p.pass},
		{"the way out is the next one", []any{p.head, count(p.a, p.b, int64(p.next))}, api.ErrExit, p.head},
		{"the way out is the step", []any{p.head, count(p.a, p.b, int64(p.step))}, api.ErrExit, p.head},
	}
}

// P14.1: each error of a loop by itself: of the only head, of the second of two, and of one within another.
func TestEachWrong(t *testing.T) {
	one := of(count(0, 1, 4), when(3), pass, step(0, 0), ret)
	found(t, "the test's own", one, loop(0, -1, upFrom(0, 3), 3))
	for _, c := range (at{0, 1, 2, 3, 0, 1}).wrong() {
		refused(t, "one loop: "+c.what, with(one, c.x...), c.e, c.place)
	}
	found(t, "the test's own", row(), rowLoops()...)
	for _, c := range (at{1, 2, 3, 4, 0, 1}).wrong() {
		refused(t, "the first of two: "+c.what, with(row(), c.x...), c.e, c.place)
	}
	for _, c := range (at{6, 7, 8, 9, 2, 3}).wrong() {
		refused(t, "the second of two: "+c.what, with(row(), c.x...), c.e, c.place)
	}
	within := of(count(0, 1, 8), set(2), count(2, 3, 7), when(5), pass, pass, step(2, 2), step(0, 0), ret)
	found(t, "the test's own", within, loop(0, -1, upFrom(0, 7), 7), loop(2, 0, upFrom(2, 6), 6))
	for _, c := range (at{2, 3, 4, 6, 2, 3}).wrong() {
		refused(t, "one within another: "+c.what, with(within, c.x...), c.e, c.place)
	}
}

// P14.1: of the first of two heads everything is told ahead of anything of the second one.
func TestFirstHead(t *testing.T) {
	for _, c := range (at{1, 2, 3, 4, 0, 1}).wrong() {
		for _, d := range (at{6, 7, 8, 9, 2, 3}).wrong() {
			refused(t, c.what+"; "+d.what, with(with(row(), c.x...), d.x...), c.e, c.place)
		}
	}
	// The loops of both heads have the same instructions but for the first one: what the second head tells of them comes later.
	nest := of(count(0, 1, 5), count(2, 3, 4), pass, step(2, 1), step(0, 0), ret)
	found(t, "the test's own", nest, loop(0, -1, upFrom(0, 4), 4), loop(1, 0, upFrom(1, 3), 3))
	refused(t, "ErrExit of the first, ErrHead of the second", with(nest, 0, count(0, 1, 4), 1, when(4)), api.ErrExit, 0)
	refused(t, "ErrDrive of the first, ErrBack of the second", with(nest, 2, set(0), 3, jump(1)), api.ErrDrive, 2)
	refused(t, "ErrDrive of the first by a way back of the second", with(nest, 3, step(0, 1)), api.ErrDrive, 3)
	refused(t, "ErrBack of the second alone", with(nest, 3, step(3, 1)), api.ErrBack, 3)
	refused(t, "the first by number lies within the second", of(jump(3), when(5), jump(1), count(0, 1, 6), jump(1), jump(3), ret), api.ErrHead, 1)
}

// P14.1: of one head the errors in the order in which they are named.
func TestOrder(t *testing.T) {
	one := of(count(0, 1, 5), when(3), pass, pass, step(0, 0), ret)
	head, exit := []any{0, when(5)}, []any{0, count(0, 1, 3)}
	back, drive := []any{4, jump(0)}, []any{2, set(0)}
	bound := []any{3, set(1)}
	refused(t, "head and back", with(with(one, head...), back...), api.ErrHead, 0)
	refused(t, "head and drive", with(with(one, head...), drive...), api.ErrHead, 0)
	refused(t, "head, back and drive", with(with(with(one, head...), back...), drive...), api.ErrHead, 0)
	refused(t, "back and drive", with(with(one, back...), drive...), api.ErrBack, 4)
	refused(t, "back and bound", with(with(one, back...), bound...), api.ErrBack, 4)
	refused(t, "back and exit", with(with(one, back...), exit...), api.ErrBack, 4)
	refused(t, "back, drive and exit", with(with(with(one, back...), drive...), exit...), api.ErrBack, 4)
	refused(t, "drive and bound", with(with(one, drive...), bound...), api.ErrDrive, 2)
	refused(t, "bound ahead of the count", with(one, 2, set(1), 3, set(0)), api.ErrDrive, 2)
	refused(t, "drive and exit", with(with(one, drive...), exit...), api.ErrDrive, 2)
	refused(t, "bound and exit", with(with(one, bound...), exit...), api.ErrDrive, 3)
	refused(t, "exit", with(one, exit...), api.ErrExit, 0)
	refused(t, "a member ahead of its head by number drives", of(jump(3), set(1), step(0, 3), count(0, 1, 6), set(0), jump(1), ret), api.ErrDrive, 1)
}

// P14.1: ErrReduce ahead of whatever is wrong with a head, wherever that stands; ErrCode ahead of both.
func TestReduceFirst(t *testing.T) {
	refused(t, "a head ahead of it", of(when(0), when(3), pass, pass, when(2), ret), api.ErrReduce, 2)
	refused(t, "a head within it", of(when(3), pass, when(2), pass, when(1), ret), api.ErrReduce, 1)
	refused(t, "a head behind it", of(when(2), pass, when(1), jump(3)), api.ErrReduce, 1)
	refused(t, "a head around it", of(pass, when(3), pass, pass, when(2), jump(0)), api.ErrReduce, 2)
	knot := append([]api.Ins{when(2), jump(2), jump(1)}, times(1021, ret)...)
	refused(t, "just so many", of(knot...), api.ErrReduce, 1)
	refused(t, "one more", of(append(knot, ret)...), api.ErrCode, 1024)
	refused(t, "one more, and a head", of(append([]api.Ins{jump(0)}, times(1024, ret)...)...), api.ErrCode, 1024)
}

// writers are all instructions that write the register A, leading to the next one.
func writers(a int, next int64) []api.Ins {
	l := []api.Ins{step(a, next)}
	for _, op := range []int{api.OpSet, api.OpMove, api.OpAdd, api.OpSub, api.OpMul, api.OpDiv, api.OpRem, api.OpLess, api.OpEqual, api.OpNot, api.OpLoad, api.OpCall} {
		l = append(l, api.Ins{Op: op, A: a, B: 5, C: 5})
	}
	return l
}

// P14.1: ErrDrive by each instruction that writes, and by none that doesn't.
func TestWriters(t *testing.T) {
	one := of(count(0, 1, 4), pass, pass, step(0, 0), ret)
	right := loop(0, -1, upFrom(0, 3), 3)
	for a := range 4 {
		for _, x := range writers(a, 3) {
			if a < 2 {
				refused(t, "a register of the count", with(one, 2, x), api.ErrDrive, 2)
			} else {
				found(t, "another register", with(one, 2, x), right)
			}
		}
	}
	for a := range 2 {
		for _, x := range []api.Ins{{Op: api.OpStore, A: a}, {Op: api.OpCheck, A: a}, {Op: api.OpIf, A: a, N: 3}, {Op: api.OpUnless, A: a, N: 4}, {Op: api.OpCount, A: a, B: 1 - a, N: 4}, {Op: api.OpSet, A: 7, B: a, C: a, N: int64(a)}, {Op: api.OpAdd, A: 7, B: a, C: a}, {Op: api.OpMove, A: 7, B: a}} {
			found(t, "what reads", with(one, 2, x), right)
		}
		for _, x := range []api.Ins{{Op: api.OpRet, A: a}, {Op: 20, A: a}, {Op: -1, A: a}} {
			found(t, "what leads nowhere, and is no member", with(one, 1, when(3), 2, x), loop(0, -1, []int{0, 1, 3}, 3))
		}
	}
	found(t, "a jump with the count's A", with(one, 2, api.Ins{Op: api.OpJump, N: 3}), right)
}

// P14.1: what Writes tells below 0 is no register, though the count names the same number.
func TestBelowZero(t *testing.T) {
	for _, r := range []int{-1, -2, -64, -1 << 32, least} {
		for _, other := range []int{0, 3, -7, r} {
			right := loop(0, -1, upFrom(0, 3), 3)
			for _, x := range append(writers(r, 3), pass, api.Ins{Op: api.OpStore, A: r}, api.Ins{Op: api.OpJump, A: r, N: 3}) {
				found(t, "the count's A", of(count(r, other, 4), pass, x, step(r, 0), ret), right)
				found(t, "the count's B", of(count(5, r, 4), pass, x, step(5, 0), ret), right)
			}
			found(t, "two ways back", of(count(r, other, 4), when(3), step(r, 0), step(r, 0), ret), loop(0, -1, upFrom(0, 3), 2, 3))
		}
		refused(t, "the other one is a register", of(count(r, 0, 4), pass, set(0), step(r, 0), ret), api.ErrDrive, 2)
		refused(t, "the other one is a register, the count", of(count(0, r, 4), pass, set(0), step(0, 0), ret), api.ErrDrive, 2)
		refused(t, "a step of another one below 0", of(count(r, 0, 4), pass, pass, step(-3, 0), ret), api.ErrBack, 3)
	}
}

// P14.1: registers that no function may have are held against one another as they are.
func TestFarRegisters(t *testing.T) {
	for _, r := range []int{0, 1, 63, 64, 65, 255, 256, 1 << 31, 1 << 32, 1<<32 + 1, most} {
		found(t, "all apart", of(count(r, 5, 3), set(7), step(r, 0), ret), loop(0, -1, upFrom(0, 2), 2))
		refused(t, "the count", of(count(r, 5, 3), set(r), step(r, 0), ret), api.ErrDrive, 1)
		refused(t, "the bound", of(count(5, r, 3), set(r), step(5, 0), ret), api.ErrDrive, 1)
		refused(t, "the lower bits alone are the same", of(count(r, 5, 3), pass, step(r^1<<40, 0), ret), api.ErrBack, 2)
		found(t, "the lower bits alone are written", of(count(r, 5, 3), set(r^1<<40), step(r, 0), ret), loop(0, -1, upFrom(0, 2), 2))
	}
}
