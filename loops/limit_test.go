package loops_test

import (
	"testing"

	"soffit/api"
	"soffit/loops"
)

// P14.1: just so many instructions as there may be are told of, whatever they are.
func TestMostCode(t *testing.T) {
	if api.MaxCode != 1024 {
		t.Fatal("the test's own limit")
	}
	for _, length := range []int{1023, 1024} {
		last := length - 1
		found(t, "a row", of(append(times(last, pass), ret)...))
		found(t, "rets", of(times(length, ret)...))
		whole := append(append([]api.Ins{count(0, 1, int64(length))}, times(length-2, pass)...), step(0, 0))
		found(t, "one loop", of(whole...), loop(0, -1, upFrom(0, last), last))
		refused(t, "one loop that jumps back", with(of(whole...), last, jump(0)), api.ErrBack, last)
		refused(t, "one loop that writes", with(of(whole...), last-1, set(1)), api.ErrDrive, last-1)
		refused(t, "one loop without a way out", with(of(whole...), 0, count(0, 1, int64(last))), api.ErrExit, 0)
		refused(t, "one loop without a count", with(of(whole...), 0, pass), api.ErrHead, 0)
		backs := append([]api.Ins{count(0, 1, int64(length))}, times(last, unless(0))...)
		refused(t, "many back edges that do not step", of(backs...), api.ErrBack, 1)
	}
}

// P14.1: of one more, and of many more, ErrCode at 1024, whatever they are.
func TestMoreCode(t *testing.T) {
	for _, length := range []int{1025, 1026, 2047, 2048, 2049, 5000, 1 << 16, 1 << 20} {
		for _, x := range []api.Ins{ret, pass, jump(0), jump(1), when(0), count(0, 1, 1024), step(0, 5), {Op: 20}} {
			refused(t, "more", of(times(length, x)...), api.ErrCode, 1024)
		}
	}
}

// P14.1: what counts is how many instructions there are, not how many can be reached, nor what lies in spare room.
func TestCounted(t *testing.T) {
	code := append(append([]api.Ins{count(0, 1, 2), step(0, 0)}, times(1022, ret)...), jump(1024))
	found(t, "1024 with one more in spare room", of(code[:1024]...), loop(0, -1, []int{0, 1}, 1))
	refused(t, "1025", of(code...), api.ErrCode, 1024)
	found(t, "a target in spare room", of([]api.Ins{count(0, 1, 1), jump(2), jump(0)}[:2]...))
	found(t, "the next one in spare room", of([]api.Ins{pass, jump(0)}[:1]...))
}

// nest are so many loops within one another, each but a count and a step.
func nest(n int) (api.Func, []api.Loop) {
	var f api.Func
	var want []api.Loop
	for i := range n {
		f.Code = append(f.Code, count(i, n, int64(2*n-i)))
		want = append(want, loop(i, i-1, upFrom(i, 2*n-1-i), 2*n-1-i))
	}
	for i := range n {
		f.Code = append(f.Code, step(n-1-i, int64(n-1-i)))
	}
	return f, want
}

// P14.1: as many loops within one another, and side by side, as there is room for.
func TestManyLoops(t *testing.T) {
	for _, n := range []int{1, 2, 3, 4, 5, 33, 200, 511, 512} {
		f, want := nest(n)
		found(t, "within one another", f, want...)
		if got := loops.Depth(want, n); n > 1 && got != n {
			t.Errorf("%d loops within one another: Depth in the middle is %d", n, got)
		}
		var side api.Func
		var apart []api.Loop
		for i := range n {
			side.Code = append(side.Code, count(0, 1, int64(2*i+2)), step(0, int64(2*i)))
			apart = append(apart, loop(2*i, -1, []int{2 * i, 2*i + 1}, 2*i+1))
		}
		found(t, "side by side", side, apart...)
		f.Code[n-1] = pass
		refused(t, "the innermost head of all", f, api.ErrHead, n-1)
		side.Code[2*n-1] = jump(int64(2*n - 2))
		refused(t, "the last way back of all", side, api.ErrBack, 2*n-1)
	}
}

// backwards is a loop of all instructions but the first one: from its head, the last but one, it goes to the last one, and from there down by number.
func backwards(length int) api.Func {
	head := int64(length - 2)
	code := []api.Ins{jump(head), step(0, head)}
	for i := 2; i < length-2; i++ {
		code = append(code, jump(int64(i-1)))
	}
	return of(append(code, count(0, 1, most), jump(head-1))...)
}

// P14.1: long ways that go down by number, with and without a loop.
func TestBackwards(t *testing.T) {
	for _, length := range []int{4, 5, 64, 65, 1023, 1024} {
		f := backwards(length)
		found(t, "down, in a loop", f, loop(length-2, -1, upFrom(1, length-1), 1))
		found(t, "down, without a way back", with(f, 1, ret))
		refused(t, "down, and back without a step", with(f, 1, jump(int64(length-2))), api.ErrBack, 1)
		refused(t, "down, and back to the beginning", with(f, 1, step(0, 0)), api.ErrHead, 0)
		refused(t, "down, entered at two places", with(f, 0, when(int64(length-2))), api.ErrReduce, 1)
	}
}

// P14.1: a chain that is gone through both ways: entered at one end its edges back are back edges; at both ends they make no loops.
func TestBothWays(t *testing.T) {
	for _, length := range []int{4, 5, 64, 65, 1023, 1024} {
		code := []api.Ins{pass}
		for i := 1; i < length; i++ {
			code = append(code, when(int64(i-1)))
		}
		refused(t, "entered at one end", of(code...), api.ErrHead, 0)
		code[1] = pass
		refused(t, "entered at one end, behind the first", of(code...), api.ErrHead, 1)
		code[0] = when(int64(length - 1))
		refused(t, "entered at both ends", of(code...), api.ErrReduce, 1)
	}
}
