package trips_test

import (
	"slices"
	"strings"
	"testing"

	"soffit/api"
	"soffit/trips"
)

func count(a, b int, n int) api.Ins { return api.Ins{Op: api.OpCount, A: a, B: b, N: int64(n)} }
func step(a int, n int) api.Ins     { return api.Ins{Op: api.OpStep, A: a, N: int64(n)} }

// times is a row of the same instruction.
func times(n int, x api.Ins) []api.Ins { return slices.Repeat([]api.Ins{x}, n) }

// module is one of a function of so many registers.
func module(regs int, params []api.Span, code ...api.Ins) api.Module {
	return api.Module{Funcs: []api.Func{{Name: "f", Regs: regs, Params: params, Code: code}}}
}

// nothing is an instruction that leads to the next one, and changes nothing.
var nothing = api.Ins{Op: api.OpMove, A: 2, B: 2}

// P17.1: just as many instructions as may be, in one loop, and ahead of one; of one more ErrCode.
func TestMostCode(t *testing.T) {
	if api.MaxCode != 1024 {
		t.Fatal("the test's own limit")
	}
	params := []api.Span{s(-3, 9), s(4, 20)}
	for _, length := range []int{1023, 1024} {
		whole := slices.Concat([]api.Ins{count(0, 1, length-1)}, times(length-3, nothing), []api.Ins{step(0, 0), {}})
		told(t, "one loop", module(3, params, whole...), 0, 23)
		late := slices.Concat(times(length-3, nothing), []api.Ins{count(0, 1, length-1), step(0, length-3), {}})
		told(t, "at the end", module(3, params, late...), 0, 23)
		if late[0] = (api.Ins{Op: api.OpIf, A: 0, N: int64(length - 3)}); length == 1024 {
			told(t, "entered from both ends", module(3, params, late...), 0, 23)
		}
	}
	for _, length := range []int{1025, 1026, 2048} {
		refused(t, "more", module(1, nil, times(length, api.Ins{})...), 0, api.ErrCode)
		refused(t, "more, in a loop that doesn't count", module(1, nil, times(length, api.Ins{Op: api.OpJump})...), 0, api.ErrCode)
	}
}

// P17.1: a head with as many ways in as there is room for, each of which comes in with another count.
func TestManyWaysIn(t *testing.T) {
	for _, ways := range []int{1, 2, 3, 50, 510} {
		head := 2 * ways
		var code []api.Ins
		for i := range ways {
			code = append(code, api.Ins{Op: api.OpSet, A: 1, N: int64(7 * (i*31%ways - 20))}, api.Ins{Op: api.OpIf, A: 0, N: int64(head)})
		}
		code = append(code, count(1, 2, head+2), step(1, head), api.Ins{})
		m := module(3, []api.Span{s(-1, 1), s(0, 0), s(1000, 5000)}, code...)
		told(t, "ways in", m, 0, 5140)
		code[2*ways-1].Op = api.OpUnless
		told(t, "ways in", m, 0, 5140)
	}
}

// P17.1: as many loops as there is room for, side by side and within one another, each with its own bound.
func TestManyLoops(t *testing.T) {
	for _, n := range []int{1, 2, 3, 50, 340} {
		var code []api.Ins
		var want []uint64
		for i := range n {
			code = append(code, api.Ins{Op: api.OpSet, A: 1, N: int64(i*37%n - 9)}, count(i%62+2, 1, 3*i+3), step(i%62+2, 3*i+1))
			want = append(want, uint64(max(0, int64(i*37%n-9))))
		}
		code = append(code, api.Ins{})
		// Those whose registers have counted before begin there; each of the first 62 begins at 0.
		if l, e := trips.Of(module(64, nil, code...), 0); e != api.OK || len(l) != n || !slices.Equal(l[:min(n, 62)], want[:min(n, 62)]) {
			t.Errorf("%d loops side by side: %s, %d, not %s", n, short(l), e, short(want))
		}
	}
	for _, n := range []int{1, 2, 3, 60, 62} {
		var code []api.Ins
		var want []uint64
		params := []api.Span{s(1, 30)}
		for i := range n {
			code = append(code, api.Ins{Op: api.OpSet, A: i + 1, N: int64(i)}, count(i+1, 0, 4*n-2*i-1+i))
			want = append(want, uint64(max(0, 30-i)))
		}
		for i := range n {
			code = append(code, step(n-i, 2*(n-i)-1))
		}
		code = append(code, api.Ins{})
		for i := range n {
			code[2*i+1].N = int64(3*n - i)
		}
		told(t, "within one another", module(64, params, code...), 0, want...)
	}
}

// P17.1: the last register of as many as may be, parameters and others.
func TestMostRegisters(t *testing.T) {
	if api.MaxRegs != 64 || api.MaxParams != 8 {
		t.Fatal("the test's own limits")
	}
	var params []api.Span
	for i := range int64(8) {
		params = append(params, s(i*10, i*20))
	}
	for a := range 64 {
		for b := range 64 {
			want := uint64(0)
			if lo, hi := 10*a, 20*b; a < 8 && b < 8 && hi > lo {
				want = uint64(hi - lo)
			} else if a >= 8 && b < 8 {
				want = uint64(20 * b)
			}
			if m := module(64, params, count(a, b, 2), step(a, 0), api.Ins{}); a != b {
				told(t, "registers", m, 0, want)
			} else {
				refused(t, "one register", m, 0, api.ErrDrive)
			}
		}
	}
	refused(t, "65 registers", module(65, params, count(63, 0, 2), step(63, 0), api.Ins{}), 0, api.ErrRegs)
}

// large is a module of as many functions as may be, each with as many instructions and as many ways into its one loop as may be.
func large() api.Module {
	var m api.Module
	for fn := range 32 {
		code := append(times(1021, api.Ins{Op: api.OpIf, A: 0, N: 1021}), count(1, 0, 1023), step(1, 1021), api.Ins{})
		m.Funcs = append(m.Funcs, api.Func{Name: "f" + strings.Repeat("g", fn%8) + strings.Repeat("h", fn/8), Regs: 64, Params: []api.Span{s(-5, int64(fn))}, Code: code})
	}
	return m
}

// P17.1: each function of a module as large as may be; it ends soon enough.
func TestLarge(t *testing.T) {
	if api.MaxFuncs != 32 {
		t.Fatal("the test's own limit")
	}
	m := large()
	for fn := range 32 {
		told(t, "large", m, fn, uint64(fn))
	}
	refused(t, "large", m, 32, api.ErrArg)
	m.Funcs = append(m.Funcs, api.Func{Name: "more", Regs: 1, Code: []api.Ins{{}}})
	refused(t, "larger", m, 0, api.ErrMany)
	refused(t, "larger", m, 33, api.ErrMany)
}

// P17.1: as many thresholds as may be.
func TestMostThresholds(t *testing.T) {
	m := text("func f 4 0 20 99", "count 1 0 5", "set 2 0", "count 2 1 4", "step 2 2", "step 1 0", "ret 0")
	for at := range int64(17) {
		m.Thresholds = append(m.Thresholds, at+83)
	}
	refused(t, "17", m, 0, api.ErrMany)
	m.Thresholds = m.Thresholds[:16]
	told(t, "16", m, 0, 99, 98)
	m.Thresholds = m.Thresholds[:15]
	told(t, "15", m, 0, 99, most)
}
