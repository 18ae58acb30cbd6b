package calls_test

import (
	"slices"
	"testing"

	"soffit/api"
)

// P15.1: of code with just as many instructions as may be calls can be reached, of one more none.
func TestMostCode(t *testing.T) {
	if api.MaxCode != 1024 {
		t.Fatal("the test's own limit")
	}
	for _, length := range []int{1023, 1024} {
		last := append(times(length-1, pass), call(1))
		calling(t, "the last one", module(of(last...), of(ret)), 0, 1)
		calling(t, "each one", module(of(times(length, call(1))...), of(ret)), 0, 1)
		ordered(t, "the last one", module(of(last...), of(ret)), 1, 0)
		refused(t, "the last one, a call of itself", module(of(ret), of(last...)), api.ErrCycle, 1, length-1)
		refused(t, "each one, a call of itself", module(of(ret), of(times(length, call(1))...)), api.ErrCycle, 1, 0)
	}
	for _, length := range []int{1025, 1026, 2048, 1 << 16} {
		each := of(times(length, call(1))...)
		calling(t, "more", module(each, of(ret)), 0)
		calling(t, "more, of itself", module(of(ret), each), 1)
		calling(t, "more, the last one", module(of(append(times(length-1, pass), call(1))...), of(ret)), 0)
		calling(t, "a call of one with more", module(of(call(1), ret), each), 0, 1)
		ordered(t, "more", module(each, of(ret)), 0, 1)
		ordered(t, "more, of itself", module(of(ret), each), 0, 1)
		ordered(t, "a call of one with more", module(of(call(1), ret), each), 1, 0)
		ordered(t, "a ring by one with more", module(of(call(1), ret), of(times(length, call(0))...)), 1, 0)
		refused(t, "a ring beside one with more", module(each, of(call(2), ret), of(call(1), ret)), api.ErrCycle, 1, 0)
	}
}

// P15.1: what counts is how many instructions there are, not what lies in spare room.
func TestCounted(t *testing.T) {
	code := append(append([]api.Ins{call(1), ret}, times(1022, ret)...), call(1))
	calling(t, "1024, and one more in spare room", module(of(code[:1024]...), of(ret)), 0, 1)
	calling(t, "1025", module(of(code...), of(ret)), 0)
	ordered(t, "1025", module(of(code...), of(ret)), 0, 1)
}

// P15.2: just so many functions as there may be, whatever they call.
func TestMostFuncs(t *testing.T) {
	if api.MaxFuncs != 32 {
		t.Fatal("the test's own limit")
	}
	for _, length := range []int{0, 1, 2, 31, 32} {
		up, down, all := make([][]int, length), make([][]int, length), make([][]int, length)
		for i := range length {
			up[i], down[i], all[i] = to(i+1), to(i-1), upTo(i)
		}
		ordered(t, "no calls", graph(make([][]int, length)...), upTo(length)...)
		ordered(t, "no code", module(make([]api.Func, length)...), upTo(length)...)
		ordered(t, "each the next one", graph(up...), downFrom(length)...)
		ordered(t, "each the one ahead", graph(down...), upTo(length)...)
		ordered(t, "each all ahead of it", graph(all...), upTo(length)...)
		for i := range length {
			all[i] = downFrom(length)[:length-1-i]
		}
		ordered(t, "each all behind it", graph(all...), downFrom(length)...)
		for i := range length {
			one := make([][]int, length)
			one[i] = to(i)
			refused(t, "one of itself", graph(one...), api.ErrCycle, i, 0)
			if i > 0 {
				one[i], one[0] = nil, to(i)
				want := slices.Concat(upTo(i + 1)[1:], to(0), upTo(length)[i+1:])
				ordered(t, "the first one another", graph(one...), want...)
			}
		}
	}
}

// P15.2: of one more function than there may be, and of many more, ErrMany at 32, whatever they call.
func TestMoreFuncs(t *testing.T) {
	for _, length := range []int{33, 34, 63, 64, 65, 100, 1024, 1025, 1 << 16, 1 << 20} {
		refused(t, "without code", module(make([]api.Func, length)...), api.ErrMany, 32, 0)
		funcs := slices.Repeat([]api.Func{of(pass, call(1), ret)}, length)
		refused(t, "all call one that calls itself", module(funcs...), api.ErrMany, 32, 0)
		ring := make([]api.Func, length)
		ring[length-1] = of(call(int64(length-1)), ret)
		refused(t, "the last one calls itself", module(ring...), api.ErrMany, 32, 0)
		refused(t, "the last one calls itself, in spare room", module(ring[:33]...), api.ErrMany, 32, 0)
		ordered(t, "32, and more in spare room", module(ring[:32]...), upTo(32)...)
		long := make([]api.Func, length)
		long[0] = of(times(1025, ret)...)
		refused(t, "one with too much code", module(long...), api.ErrMany, 32, 0)
	}
}
