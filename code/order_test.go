package code_test

import (
	"testing"

	"soffit/api"
)

// slip is one thing that is done wrong to a module, and the fault that it makes of it.
type slip struct {
	what string
	do   func(*api.Module)
	want api.Fault
}

// base has thresholds and three functions, the first two of which have an instruction of each form.
func base() api.Module {
	body := func() []api.Ins {
		return []api.Ins{
			{Op: api.OpAdd, A: 1, B: 2, C: 3}, {Op: api.OpSet, A: 1, N: 5}, {Op: api.OpMove, A: 1, B: 2}, {Op: api.OpLoad, A: 1, B: 2, N: -3}, {Op: api.OpCheck, A: 1, N: 4},
			{Op: api.OpJump, N: 6}, {Op: api.OpIf, A: 1, N: 7}, {Op: api.OpCount, A: 1, B: 2, N: 8}, {Op: api.OpCall, A: 1, B: 2, N: 1}, {Op: api.OpStep, A: 1, N: 7},
		}
	}
	whole := func(name string) api.Func {
		return api.Func{Name: name, Params: []api.Span{{Lo: 0, Hi: 1}, {Lo: 2, Hi: 3}}, Regs: 4, Words: 5, Code: body()}
	}
	return api.Module{Thresholds: []int64{1, 2, 3}, Funcs: []api.Func{whole("a"), whole("b"), fn("c", 0, 1)}}
}

func wholeSlips() []slip {
	return []slip{
		{"too many thresholds", func(m *api.Module) { m.Thresholds = append(m.Thresholds, make([]int64, 14)...) }, api.Fault{E: api.ErrMany, At: 16}},
		{"a threshold that is above the next one", func(m *api.Module) { m.Thresholds[0] = 2 }, api.Fault{E: api.ErrOrder, At: 1}},
		{"a last threshold below the one ahead", func(m *api.Module) { m.Thresholds[2] = 0 }, api.Fault{E: api.ErrOrder, At: 2}},
		{"too many functions", func(m *api.Module) { m.Funcs = append(m.Funcs, make([]api.Func, 30)...) }, api.Fault{E: api.ErrMany, Func: 32}},
	}
}

func headSlips(f int) []slip {
	name := slip{"a name that is none", func(m *api.Module) { m.Funcs[f].Name = "A" }, api.Fault{E: api.ErrName, Func: f}}
	twice := slip{"a name that is there", func(m *api.Module) { m.Funcs[f].Name = "a" }, api.Fault{E: api.ErrTwice, Func: f}}
	rest := []slip{
		{"too many parameters", func(m *api.Module) { m.Funcs[f].Params = append(m.Funcs[f].Params, make([]api.Span, 7)...) }, api.Fault{E: api.ErrMany, Func: f, At: 8}},
		{"a range without numbers", func(m *api.Module) { m.Funcs[f].Params[0].Lo = 2 }, api.Fault{E: api.ErrEmpty, Func: f}},
		{"a second range without numbers", func(m *api.Module) { m.Funcs[f].Params[1].Hi = 1 }, api.Fault{E: api.ErrEmpty, Func: f, At: 1}},
		{"too few registers", func(m *api.Module) { m.Funcs[f].Regs = 1 }, api.Fault{E: api.ErrRegs, Func: f}},
		{"too many words", func(m *api.Module) { m.Funcs[f].Words = 4097 }, api.Fault{E: api.ErrWords, Func: f}},
		{"no instruction", func(m *api.Module) { m.Funcs[f].Code = nil }, api.Fault{E: api.ErrCode, Func: f}},
	}
	if f == 0 {
		return append([]slip{name}, rest...)
	}
	return append([]slip{name, twice}, rest...)
}

func codeSlips(f int) []slip {
	var all []slip
	add := func(what string, i int, e api.Errno, do func(x *api.Ins)) {
		all = append(all, slip{what, func(m *api.Module) { do(&m.Funcs[f].Code[i]) }, api.Fault{E: e, Func: f, At: i}})
	}
	add("no operation", 0, api.ErrOp, func(x *api.Ins) { x.Op = 20 })
	add("add's A", 0, api.ErrReg, func(x *api.Ins) { x.A = 4 })
	add("add's B", 0, api.ErrReg, func(x *api.Ins) { x.B = -1 })
	add("add's C", 0, api.ErrReg, func(x *api.Ins) { x.C = 4 })
	add("add's N", 0, api.ErrUnused, func(x *api.Ins) { x.N = 1 })
	add("set's A", 1, api.ErrReg, func(x *api.Ins) { x.A = 4 })
	add("set's B", 1, api.ErrUnused, func(x *api.Ins) { x.B = 1 })
	add("set's C", 1, api.ErrUnused, func(x *api.Ins) { x.C = -1 })
	add("move's B", 2, api.ErrReg, func(x *api.Ins) { x.B = 64 })
	add("move's C", 2, api.ErrUnused, func(x *api.Ins) { x.C = 1 })
	add("load's A", 3, api.ErrReg, func(x *api.Ins) { x.A = -1 })
	add("load's C", 3, api.ErrUnused, func(x *api.Ins) { x.C = 1 })
	add("check's A", 4, api.ErrReg, func(x *api.Ins) { x.A = 4 })
	add("check's B", 4, api.ErrUnused, func(x *api.Ins) { x.B = 1 })
	add("check's N", 4, api.ErrRange, func(x *api.Ins) { x.N = 0 })
	add("jump's A", 5, api.ErrUnused, func(x *api.Ins) { x.A = 1 })
	add("jump's N", 5, api.ErrJump, func(x *api.Ins) { x.N = 10 })
	add("if's A", 6, api.ErrReg, func(x *api.Ins) { x.A = 4 })
	add("if's C", 6, api.ErrUnused, func(x *api.Ins) { x.C = 4 })
	add("if's N", 6, api.ErrJump, func(x *api.Ins) { x.N = -1 })
	add("count's B", 7, api.ErrReg, func(x *api.Ins) { x.B = 4 })
	add("count's N", 7, api.ErrJump, func(x *api.Ins) { x.N = 1024 })
	add("call's A", 8, api.ErrReg, func(x *api.Ins) { x.A = 4 })
	add("call's C", 8, api.ErrUnused, func(x *api.Ins) { x.C = 1 })
	add("call's N", 8, api.ErrCall, func(x *api.Ins) { x.N = 3 })
	add("step's A", 9, api.ErrReg, func(x *api.Ins) { x.A = 4 })
	add("step's N", 9, api.ErrJump, func(x *api.Ins) { x.N = 10 })
	add("a last instruction that may be fallen over", 9, api.ErrFall, func(x *api.Ins) { x.Op = api.OpIf })
	return all
}

// slips are in the order of P9.4.
func slips() []slip {
	all := wholeSlips()
	for f := range 2 {
		all = append(all, headSlips(f)...)
	}
	for f := range 2 {
		all = append(all, codeSlips(f)...)
	}
	return all
}

// P9.4: of any two things that are wrong the first one is told.
func TestOrder(t *testing.T) {
	fault(t, "nothing wrong", base(), api.Fault{})
	all := slips()
	for i, first := range all {
		m := base()
		first.do(&m)
		fault(t, first.what, m, first.want)
		for _, second := range all[i+1:] {
			m := base()
			second.do(&m)
			first.do(&m)
			fault(t, first.what+", and "+second.what, m, first.want)
		}
	}
}

// P9.4: with all that is wrong from one thing on, that one is told.
func TestAllBehind(t *testing.T) {
	all := slips()
	for i := range all {
		m := base()
		for j := len(all) - 1; j >= i; j-- {
			// The second function's own name may stand for one of two slips, and without instructions there are none to be wrong.
			if all[j].want.E != api.ErrCode || j == i {
				all[j].do(&m)
			}
		}
		fault(t, all[i].what+", and all behind it", m, all[i].want)
	}
}

// P9.4: what is wrong in a later function's head goes ahead of what is wrong in an earlier one's instructions.
func TestHeadsAheadOfCode(t *testing.T) {
	for _, instruction := range codeSlips(0) {
		for _, head := range headSlips(1) {
			m := base()
			instruction.do(&m)
			head.do(&m)
			fault(t, instruction.what+" of the function ahead of "+head.what, m, head.want)
		}
	}
}
