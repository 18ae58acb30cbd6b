package calls_test

import (
	"slices"
	"testing"

	"soffit/api"
	"soffit/calls"
)

// P15.1: by rising number, each once, in whatever order and however often they are called.
func TestOfRises(t *testing.T) {
	calling(t, "falling", graph(to(3, 2, 1), nil, nil, nil), 0, 1, 2, 3)
	calling(t, "rising", graph(to(1, 2, 3), nil, nil, nil), 0, 1, 2, 3)
	calling(t, "mixed", graph(nil, nil, nil, nil, nil, to(4, 0, 3, 0, 4, 4, 1)), 5, 0, 1, 3, 4)
	calling(t, "the same, one behind the other", graph(to(1, 1, 1), nil), 0, 1)
	calling(t, "the same, with others between", graph(to(1, 2, 1, 2, 1), nil, nil), 0, 1, 2)
	calling(t, "all of 32, falling", graph(append([][]int{downFrom(32)}, make([][]int, 31)...)...), 0, upTo(32)...)
	calling(t, "all of 32, twice", graph(append([][]int{slices.Concat(upTo(32), downFrom(32))}, make([][]int, 31)...)...), 0, upTo(32)...)
}

// P15.1: what each one calls itself, not what these call in turn, nor who calls it.
func TestOfEach(t *testing.T) {
	m := graph(to(1), to(2), to(3), nil)
	calling(t, "a chain", m, 0, 1)
	calling(t, "a chain", m, 1, 2)
	calling(t, "a chain", m, 2, 3)
	calling(t, "a chain", m, 3)
	m = graph(to(2, 3), to(3), nil, nil, to(0, 1))
	for fn, want := range [][]int{{2, 3}, {3}, nil, nil, {0, 1}} {
		calling(t, "many", m, fn, want...)
	}
	m = graph(to(1), to(0), to(2, 0), to(3))
	for fn, want := range [][]int{{1}, {0}, {0, 2}, {3}} {
		calling(t, "rings and calls of itself", m, fn, want...)
	}
}

// P15.1: a call alone calls, whatever number stands in its other fields; N alone is what it calls.
func TestOfOperations(t *testing.T) {
	for _, op := range []int{least, -1 << 32, -20, -19, -2, -1, 0, 1, 2, 3, 4, 5, 6, 7, 8, 9, 10, 11, 12, 13, 14, 15, 16, 17, 18, 19, 20, 21, 38, 19 + 1<<8, 19 + 1<<16, 19 + 1<<32, most} {
		x := api.Ins{Op: op, A: 1, B: 1, C: 1, N: 1}
		m := module(of(x, ret), of(ret))
		if op == 19 {
			calling(t, "a call", m, 0, 1)
			refused(t, "a call of itself", module(of(ret), of(x, ret)), api.ErrCycle, 1, 0)
			continue
		}
		calling(t, "no call", m, 0)
		ordered(t, "no call", module(of(ret), of(x, ret)), 0, 1)
	}
	for _, n := range []int{0, 1, 2, 3, -1, 64, most, least} {
		calling(t, "other fields", module(of(api.Ins{Op: api.OpCall, A: n, B: n, C: n, N: 2}, ret), of(), of()), 0, 2)
	}
}

// P15.1: a call that can be reached, and one that can't, by each way to lead on.
func TestOfReached(t *testing.T) {
	for _, c := range []struct {
		what string
		code []api.Ins
		want []int
	}{
		{"the first one", []api.Ins{call(1)}, to(1)},
		{"the last one, over which the end is fallen", []api.Ins{pass, pass, call(1)}, to(1)},
		{"behind another one", []api.Ins{call(1), call(2)}, to(1, 2)},
		{"behind a call of no function", []api.Ins{call(-1), call(99), call(2)}, to(2)},
		{"behind a ret", []api.Ins{ret, call(1)}, nil},
		{"ahead of a ret and behind it", []api.Ins{call(2), ret, call(1)}, to(2)},
		{"behind a jump", []api.Ins{jump(2), call(1), ret}, nil},
		{"at a jump's target", []api.Ins{jump(2), call(1), call(2), ret}, to(2)},
		{"behind a jump, and led back to", []api.Ins{jump(2), call(1), when(1), ret}, to(1)},
		{"behind a jump to no instruction", []api.Ins{jump(9), call(1), ret}, nil},
		{"behind an if, and at its target", []api.Ins{when(3), call(1), ret, call(2), ret}, to(1, 2)},
		{"between an if's two ways", []api.Ins{when(4), call(1), ret, call(3), call(2), ret}, to(1, 2)},
		{"at an unless's target", []api.Ins{{Op: api.OpUnless, N: 2}, ret, call(2), ret}, to(2)},
		{"in a loop and behind it", []api.Ins{{Op: api.OpCount, B: 1, N: 3}, call(1), {Op: api.OpStep}, call(2), ret}, to(1, 2)},
		{"behind a step", []api.Ins{{Op: api.OpStep, N: 2}, call(1), call(2), ret}, to(2)},
		{"behind what is no operation", []api.Ins{{Op: 20}, call(1), ret}, nil},
		{"behind all operations that go on", []api.Ins{pass, {Op: 2}, {Op: 3}, {Op: 4}, {Op: 5}, {Op: 6}, {Op: 7}, {Op: 8}, {Op: 9}, {Op: 10}, {Op: 11}, {Op: 12}, {Op: 13}, call(1), ret}, to(1)},
		{"once reached and once not", []api.Ins{call(1), ret, call(1), call(2)}, to(1)},
		{"once not reached and once reached", []api.Ins{jump(3), call(1), call(2), call(1), ret}, to(1)},
		{"in a round that can't be reached", []api.Ins{ret, call(1), jump(1)}, nil},
		{"in a round that never ends", []api.Ins{call(1), jump(0), call(2)}, to(1)},
		{"no code", nil, nil},
	} {
		f := of(c.code...)
		calling(t, c.what, module(f, of(ret), of(ret), of(ret)), 0, c.want...)
		calling(t, c.what+", as the last one", module(of(ret), of(ret), of(ret), f), 3, c.want...)
	}
}

// P15.1: what stands as N and is no function's number is left out.
func TestOfNoFunctions(t *testing.T) {
	for _, length := range []int{1, 2, 3, 32, 33} {
		var code []api.Ins
		n := int64(length)
		for _, x := range []int64{least, least + 1, -1 << 32, 1 - 1<<32, -33, -2, -1, n, n + 1, 2 * n, 64, 1024, 1 << 16, 1 << 31, 1 << 32, 1<<32 + 1, 1<<32 + n - 1, most - 1, most} {
			code = append(code, call(x))
			m := module(append([]api.Func{of(call(x), ret)}, make([]api.Func, length-1)...)...)
			calling(t, "no function", m, 0)
			if length <= 32 {
				ordered(t, "no function", m, upTo(length)...)
			}
		}
		code = append(code, call(0), call(n-1), ret)
		want := slices.Compact(to(0, length-1))
		calling(t, "no functions, and some", module(append(make([]api.Func, length-1), of(code...))...), length-1, want...)
	}
}

// P15.1: of no function none.
func TestOfNone(t *testing.T) {
	for _, length := range []int{0, 1, 2, 32, 33, 100} {
		var m api.Module
		for range length {
			m.Funcs = append(m.Funcs, of(call(0), ret))
		}
		for _, fn := range []int{least, least + 1, -1 << 32, -33, -2, -1, length, length + 1, length + 32, 1 << 31, 1 << 32, 1<<32 + 1, most - 1, most} {
			calling(t, "no function", m, fn)
		}
		for fn := range length {
			calling(t, "a function", m, fn, 0)
		}
	}
	funcs := []api.Func{of(ret), of(call(0), ret)}
	calling(t, "a function in spare room", module(funcs[:1]...), 1)
	calling(t, "a call of a function in spare room", module([]api.Func{of(call(1), ret), of(ret)}[:1]...), 0)
	calling(t, "a call in spare room", module(of([]api.Ins{pass, call(0)}[:1]...)), 0)
}

// P15.1, R2: where there is none, that is a list without elements, and Of asks for no more than there is: a module of more functions than may be is told of.
func TestOfMany(t *testing.T) {
	for _, length := range []int{33, 100, 1000, 1 << 16} {
		m := api.Module{Funcs: make([]api.Func, length)}
		var code []api.Ins
		each := min(length, 100)
		for i := range each {
			code = append(code, call(int64(length-1-i)), call(int64(i)))
		}
		m.Funcs[length-1] = of(append(code, ret)...)
		var want []int
		for i := range each {
			want = append(want, i, length-1-i)
		}
		slices.Sort(want)
		calling(t, "many", m, length-1, slices.Compact(want)...)
		calling(t, "many, without code", m, 0)
	}
	if l := calls.Of(api.Module{}, 0); len(l) != 0 {
		t.Error(l)
	}
}
