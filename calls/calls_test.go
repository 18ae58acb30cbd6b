package calls_test

import (
	"fmt"
	"slices"
	"testing"

	"soffit/api"
	"soffit/calls"
)

const (
	least = -1 << 63
	most  = 1<<63 - 1
)

var (
	ret  = api.Ins{Op: api.OpRet}
	pass = api.Ins{Op: api.OpSet, N: 1} // its N is no function's number
)

func call(n int64) api.Ins { return api.Ins{Op: api.OpCall, N: n} }
func jump(n int64) api.Ins { return api.Ins{Op: api.OpJump, N: n} }
func when(n int64) api.Ins { return api.Ins{Op: api.OpIf, N: n} }

func of(code ...api.Ins) api.Func { return api.Func{Code: code} }

// times is a row of the same instruction.
func times(n int, x api.Ins) []api.Ins { return slices.Repeat([]api.Ins{x}, n) }

func module(funcs ...api.Func) api.Module { return api.Module{Funcs: funcs} }

// graph is a module of functions that call others one behind the other, and then end.
func graph(called ...[]int) api.Module {
	var m api.Module
	for _, list := range called {
		var code []api.Ins
		for _, n := range list {
			code = append(code, call(int64(n)))
		}
		m.Funcs = append(m.Funcs, of(append(code, ret)...))
	}
	return m
}

func to(numbers ...int) []int { return numbers }

// upTo are the numbers from 0 to one less than n.
func upTo(n int) []int {
	l := make([]int, n)
	for i := range l {
		l[i] = i
	}
	return l
}

// downFrom are the same the other way round.
func downFrom(n int) []int {
	l := upTo(n)
	slices.Reverse(l)
	return l
}

// short is a value's text, cut where it gets long.
func short(v any) string {
	s := fmt.Sprint(v)
	return s[:min(len(s), 600)]
}

// codes are a module's functions' code, to be told.
func codes(m api.Module) string {
	var l [][]api.Ins
	for _, f := range m.Funcs[:min(len(m.Funcs), 40)] {
		l = append(l, f.Code[:min(len(f.Code), 40)])
	}
	return short(l)
}

// calling holds a function to those that it calls.
func calling(t *testing.T, what string, m api.Module, fn int, want ...int) {
	t.Helper()
	if l := calls.Of(m, fn); !slices.Equal(l, want) {
		t.Errorf("%s: Of(%s, %d): %s, not %v", what, codes(m), fn, short(l), want)
	}
}

// ordered holds a module to its functions' order.
func ordered(t *testing.T, what string, m api.Module, want ...int) {
	t.Helper()
	l, fault := calls.Order(m)
	if fault != (api.Fault{}) || !slices.Equal(l, want) {
		t.Errorf("%s: Order(%s): %s, %v, not %v", what, codes(m), short(l), fault, want)
	}
}

// refused holds a module to what is wrong with it.
func refused(t *testing.T, what string, m api.Module, e api.Errno, fn, at int) {
	t.Helper()
	l, fault := calls.Order(m)
	if want := (api.Fault{E: e, Func: fn, At: at}); fault != want || len(l) != 0 {
		t.Errorf("%s: Order(%s): %s, %v, not %v", what, codes(m), short(l), fault, want)
	}
}

// sample is the chapter's example.
func sample() api.Module {
	return module(of(call(2), call(1), ret), of(call(2), ret), of(ret), of(ret, call(0), ret))
}

// P15.1, P15.2: the chapter's examples.
func TestExamples(t *testing.T) {
	m := sample()
	for fn, want := range map[int][]int{0: {1, 2}, 1: {2}, 2: nil, 3: nil, 4: nil, -1: nil} {
		calling(t, "sample", m, fn, want...)
	}
	ordered(t, "sample", m, 2, 1, 0, 3)
	refused(t, "ring", module(of(pass, pass, call(1), ret), of(pass, pass, pass, call(0), ret), of(call(0), ret)), api.ErrCycle, 0, 2)
	refused(t, "itself", module(of(call(1), ret), of(pass, pass, pass, pass, call(1), pass, call(1), ret)), api.ErrCycle, 1, 4)
	ordered(t, "nothing", api.Module{})
}

// P15.2: the errors' numbers, as the chapter lists them.
func TestNumbers(t *testing.T) {
	if api.ErrMany != 3 || api.ErrCycle != 75 || api.OK != 0 {
		t.Error(api.ErrMany, api.ErrCycle, api.OK)
	}
}
