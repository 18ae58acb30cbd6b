package cost_test

import (
	"slices"
	"strings"
	"testing"

	"soffit/api"
	"soffit/cost"
)

// times is a row of the same instruction.
func times(n int, x api.Ins) []api.Ins { return slices.Repeat([]api.Ins{x}, n) }

// module is one of a function of so many registers.
func module(regs int, params []api.Span, code ...api.Ins) api.Module {
	return api.Module{Funcs: []api.Func{{Name: "f", Regs: regs, Params: params, Code: code}}}
}

var division = api.Ins{Op: api.OpDiv, A: 2, B: 2, C: 2}

// P18.1: just as many instructions as may be, straight on and in one loop; of one more ErrCode.
func TestMostCode(t *testing.T) {
	if api.MaxCode != 1024 {
		t.Fatal("the test's own limit")
	}
	for _, length := range []int{1023, 1024} {
		takes(t, "straight on", module(3, nil, append(times(length-1, division), api.Ins{})...), int64(length-1)*8+1)
		loop := slices.Concat([]api.Ins{count(0, 1, length-1)}, times(length-3, division), []api.Ins{step(0, 0), {}})
		takes(t, "one loop", module(3, []api.Span{s(-3, 9), s(4, 20)}, loop...), 23*(2+int64(length-3)*8)+1+1)
	}
	for _, length := range []int{1025, 1026, 2048} {
		refused(t, "more", module(3, nil, append(times(length-1, division), api.Ins{})...), api.ErrCode, 0, 0)
		refused(t, "more, in loops that don't count", module(1, nil, times(length, api.Ins{Op: api.OpJump})...), api.ErrCode, 0, 0)
	}
}

// P18.1: as many choices as there is room for, one behind the other, of which each has two ways: it ends soon enough.
func TestManyWays(t *testing.T) {
	for _, n := range []int{1, 2, 3, 100, 340} {
		var code []api.Ins
		want := int64(1)
		for i := range n {
			at := int64(3 * i)
			code = append(code, api.Ins{Op: api.OpIf, N: at + 2}, division, api.Ins{Op: api.OpMul})
			want += 1 + 8 + 3
		}
		takes(t, "the longer way each time", module(3, nil, append(code, api.Ins{})...), want)
		for i := range n {
			code[3*i] = api.Ins{Op: api.OpUnless, N: int64(3*i + 3)}
		}
		takes(t, "past both each time", module(3, nil, append(code, api.Ins{})...), want)
	}
}

// P18.1: as many loops as there is room for, one behind the other and within one another.
func TestManyLoops(t *testing.T) {
	for _, n := range []int{1, 2, 3, 50, 62} {
		var row []api.Ins
		want := int64(1)
		for i := range n {
			row = append(row, api.Ins{Op: api.OpSet, A: 1, N: int64(i)}, count(i+2, 1, 3*i+3), step(i+2, 3*i+1))
			want += 1 + 2*int64(i) + 1
		}
		takes(t, "one behind the other", module(64, nil, append(row, api.Ins{})...), want)
	}
	for depth := 1; depth <= 30; depth++ {
		var n *nest
		for i := range depth {
			n = &nest{rounds: int64(i%2 + 1), inner: n}
		}
		reckonedAs(t, n)
	}
	var many []api.Ins
	want := int64(1)
	for i := range 511 {
		many = append(many, count(0, 1, 2*i+2), step(0, 2*i))
		want++
	}
	takes(t, "511 loops without rounds", module(2, nil, append(many, api.Ins{})...), want)
}

// P18.1: one head with as many ways back as there is room for, of which any may weigh most.
func TestManyWaysBack(t *testing.T) {
	for _, n := range []int{1, 2, 3, 50, 340} {
		for _, heavy := range []int{0, n / 2, n - 1} {
			var code []api.Ins
			exit := 3*n + 1
			code = append(code, count(1, 0, exit))
			for i := range n {
				x := api.Ins{Op: api.OpSet, A: 2}
				if i == heavy {
					x = api.Ins{Op: api.OpDiv, A: 2, B: 2, C: 0}
				}
				code = append(code, api.Ins{Op: api.OpIf, A: 2, N: int64(3*i + 4)}, x, step(1, 0))
			}
			// The last branch leads out.
			code = append(code, api.Ins{})
			round := max(1+int64(heavy)+1+8+1, 1+int64(n-1)+1+1+1)
			out := max(1+1, 1+int64(n)+1)
			takes(t, "ways back", module(3, []api.Span{s(5, 5)}, code...), 5*round+out)
		}
	}
}

// row is a module of so many functions, each of which calls the next one.
func row(n int) api.Module {
	var m api.Module
	for fn := range n {
		f := api.Func{Name: "f" + strings.Repeat("g", fn%8) + strings.Repeat("h", fn/8), Regs: 64, Words: 4096, Code: []api.Ins{{Op: api.OpCall, N: int64(fn + 1)}, {}}}
		if fn == n-1 {
			f.Code = f.Code[1:]
		}
		m.Funcs = append(m.Funcs, f)
	}
	return m
}

// P18.1: as many functions as may be, each of which calls the next one, with as many frames and words as may be; of one more ErrMany.
func TestMostFunctions(t *testing.T) {
	if api.MaxFuncs != 32 || api.MaxRegs != 64 || api.MaxWords != 4096 {
		t.Fatal("the test's own limits")
	}
	for _, n := range []int{1, 2, 31, 32} {
		var want []api.Ceiling
		for fn := range int64(n) {
			want = append(want, c(5*(int64(n)-fn-1)+1, int64(n)-fn, (int64(n)-fn)*4160))
		}
		told(t, "a row", row(n), want...)
	}
	refused(t, "33", row(33), api.ErrMany, 32, 0)
	last := row(32)
	last.Funcs[31].Code = []api.Ins{{Op: api.OpCall, N: 0}, {}}
	refused(t, "a ring of 32", last, api.ErrCycle, 0, 0)
	last.Funcs[31].Code = []api.Ins{{Op: api.OpJump}}
	refused(t, "a loop that doesn't count in the last one", last, api.ErrHead, 31, 0)
	last.Funcs[31] = named(spent("g", most), last.Funcs[31].Name)
	refused(t, "as much as may be in the last one", last, api.ErrCeiling, 30, 0)
	last.Funcs[31] = named(spent("g", most-5*31), last.Funcs[31].Name)
	if l, fault := cost.Of(last); fault.E != api.OK || l[0].Steps != most {
		t.Errorf("just as many: %v, %v", l, fault)
	}
	last.Funcs[31] = named(spent("g", most-5*31+1), last.Funcs[31].Name)
	refused(t, "one more than as many", last, api.ErrCeiling, 0, 1)
}

// P18.1: two calls each of the next function, so that the steps double each time; up to the greatest ceiling and past it.
func TestDoubling(t *testing.T) {
	m := row(32)
	for fn := range 31 {
		x := m.Funcs[fn].Code[0]
		m.Funcs[fn].Code = []api.Ins{x, x, {}}
	}
	l, fault := cost.Of(m)
	want := int64(1)
	for fn := 31; fn >= 0 && fault.E == api.OK; fn-- {
		if l[fn].Steps != want {
			t.Errorf("%d: %d, not %d", fn, l[fn].Steps, want)
		}
		want = 2*(want+4) + 1
	}
	if fault.E != api.OK {
		t.Error(fault)
	}
	for fn := range 31 {
		x := m.Funcs[fn].Code[0]
		m.Funcs[fn].Code = []api.Ins{x, x, x, x, x, {}}
	}
	steps, over := int64(1), 0
	for fn := 30; fn >= 0; fn-- {
		if steps > (most-1)/5-4 {
			over = fn
			break
		}
		steps = 5*(steps+4) + 1
	}
	if _, fault := cost.Of(m); fault.E != api.ErrCeiling || fault.Func != over || over == 0 {
		t.Errorf("five each: %v, not in %d", fault, over)
	}
}

// P18.1: a module as large as may be, of loops within one another: it ends soon enough.
func TestLarge(t *testing.T) {
	m := row(32)
	var code []api.Ins
	depth := 60
	for i := range depth {
		code = append(code, api.Ins{Op: api.OpSet, A: i + 2}, count(i+2, 1, 0))
	}
	code = append(code, times(1024-3*depth-3, api.Ins{Op: api.OpNot, A: 63, B: 63})...)
	for i := range depth {
		at := depth - 1 - i
		code[2*at+1].N = int64(len(code) + 1)
		code = append(code, step(at+2, 2*at+1))
	}
	for fn := range m.Funcs {
		tail := []api.Ins{{Op: api.OpCall, A: 0, N: int64(fn + 1)}, {}, {}}
		if fn == 31 {
			tail[0] = api.Ins{}
		}
		m.Funcs[fn].Code = slices.Concat(code, tail)
	}
	l, fault := cost.Of(m)
	// No loop has rounds: a set and a count of the outermost one, and the call.
	if fault.E != api.OK || len(l) != 32 || l[31].Steps != 3 || l[0].Steps != 3+31*(3+4) || len(m.Funcs[0].Code) != 1024 {
		t.Errorf("%v, %v", l, fault)
	}
}
