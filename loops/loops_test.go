package loops_test

import (
	"fmt"
	"slices"
	"testing"

	"soffit/api"
	"soffit/loops"
)

const (
	least = -1 << 63
	most  = 1<<63 - 1
)

var (
	ret  = api.Ins{Op: api.OpRet}
	pass = api.Ins{Op: api.OpCheck, N: 1} // it writes nothing, and leads to the next one
)

func jump(n int64) api.Ins            { return api.Ins{Op: api.OpJump, N: n} }
func when(n int64) api.Ins            { return api.Ins{Op: api.OpIf, A: 9, N: n} }
func unless(n int64) api.Ins          { return api.Ins{Op: api.OpUnless, A: 9, N: n} }
func count(a, b int, n int64) api.Ins { return api.Ins{Op: api.OpCount, A: a, B: b, N: n} }
func step(a int, n int64) api.Ins     { return api.Ins{Op: api.OpStep, A: a, N: n} }
func set(a int) api.Ins               { return api.Ins{Op: api.OpSet, A: a, N: 1} }

func of(code ...api.Ins) api.Func { return api.Func{Code: code} }

// times is a row of the same instruction.
func times(n int, x api.Ins) []api.Ins { return slices.Repeat([]api.Ins{x}, n) }

// with is a function with other instructions, each behind its number.
func with(f api.Func, changes ...any) api.Func {
	f.Code = slices.Clone(f.Code)
	for i := 0; i < len(changes); i += 2 {
		f.Code[changes[i].(int)] = changes[i+1].(api.Ins)
	}
	return f
}

// sample is the chapter's example.
func sample() api.Func {
	return of(count(0, 1, 4), api.Ins{Op: api.OpIf, A: 2, N: 3}, api.Ins{Op: api.OpAdd, A: 3, B: 3}, step(0, 0), api.Ins{Op: api.OpRet, A: 3})
}

// pair is the chapter's example of two loops of which one lies within the other.
func pair() api.Func {
	return of(count(0, 1, 6), set(2), count(2, 3, 5), api.Ins{Op: api.OpAdd, A: 4, B: 4, C: 2}, step(2, 2), step(0, 0), api.Ins{Op: api.OpRet, A: 4})
}

// row is two loops, one behind the other.
func row() api.Func {
	return of(set(0), count(0, 1, 5), when(4), pass, step(0, 1), set(2), count(2, 3, 10), when(9), pass, step(2, 6), ret)
}

func rowLoops() []api.Loop {
	return []api.Loop{loop(1, -1, upFrom(1, 4), 4), loop(6, -1, upFrom(6, 9), 9)}
}

func loop(head, parent int, members []int, backs ...int) api.Loop {
	return api.Loop{Head: head, Parent: parent, Members: members, Backs: backs}
}

// upFrom are the numbers from one to another.
func upFrom(first, last int) []int {
	var l []int
	for i := first; i <= last; i++ {
		l = append(l, i)
	}
	return l
}

// short is a value's text, cut where it gets long.
func short(v any) string {
	s := fmt.Sprint(v)
	return s[:min(len(s), 400)]
}

func sameLoop(a, b api.Loop) bool {
	return a.Head == b.Head && a.Parent == b.Parent && slices.Equal(a.Members, b.Members) && slices.Equal(a.Backs, b.Backs)
}

func sameLoops(a, b []api.Loop) bool { return slices.EqualFunc(a, b, sameLoop) }

// found holds a function to its loops.
func found(t *testing.T, what string, f api.Func, want ...api.Loop) {
	t.Helper()
	l, e, at := loops.Find(f)
	if e != api.OK || at != 0 || !sameLoops(l, want) {
		t.Errorf("%s: Find(%s): %s, %d at %d, not %s", what, short(f.Code), short(l), e, at, short(want))
	}
}

// refused holds a function to what is wrong first, and its instruction.
func refused(t *testing.T, what string, f api.Func, e api.Errno, at int) {
	t.Helper()
	l, got, place := loops.Find(f)
	if got != e || place != at || len(l) != 0 {
		t.Errorf("%s: Find(%s): %s, %d at %d, not %d at %d", what, short(f.Code), short(l), got, place, e, at)
	}
}

// P14.1, P14.2: the chapter's examples.
func TestExamples(t *testing.T) {
	c := sample()
	found(t, "c", c, loop(0, -1, upFrom(0, 3), 3))
	found(t, "two steps", with(c, 2, step(0, 0)), loop(0, -1, upFrom(0, 3), 2, 3))
	refused(t, "add to 0", with(c, 2, api.Ins{Op: api.OpAdd, A: 0, B: 3}), api.ErrDrive, 2)
	refused(t, "add to 1", with(c, 2, api.Ins{Op: api.OpAdd, A: 1, B: 3}), api.ErrDrive, 2)
	refused(t, "a jump back", with(c, 3, jump(0)), api.ErrBack, 3)
	refused(t, "another step", with(c, 3, step(1, 0)), api.ErrBack, 3)
	refused(t, "no count", with(c, 0, api.Ins{Op: api.OpIf, N: 4}), api.ErrHead, 0)
	refused(t, "no way out", with(c, 0, count(0, 1, 2), 1, api.Ins{Op: api.OpIf, A: 2, N: 4}), api.ErrExit, 0)
	refused(t, "no loop", of(api.Ins{Op: api.OpIf, N: 2}, jump(2), jump(1)), api.ErrReduce, 1)
	found(t, "two loops", pair(), loop(0, -1, upFrom(0, 5), 5), loop(2, 0, upFrom(2, 4), 4))
	l, _, _ := loops.Find(pair())
	for at, want := range map[int]int{3: 2, 5: 1, 6: 0} {
		if n := loops.Depth(l, at); n != want {
			t.Errorf("Depth of %d: %d, not %d", at, n, want)
		}
	}
}

// P14.1: the errors' numbers, as the chapter lists them.
func TestNumbers(t *testing.T) {
	for e, want := range map[api.Errno]int{api.ErrReduce: 70, api.ErrHead: 71, api.ErrBack: 72, api.ErrDrive: 73, api.ErrExit: 74, api.ErrCode: 97} {
		if int(e) != want {
			t.Errorf("%d, not %d", e, want)
		}
	}
}
