package code_test

import (
	"slices"
	"testing"

	"soffit/api"
	"soffit/code"
)

// follows holds a module that may be to P9.6, instruction by instruction.
func follows(t *testing.T, m api.Module) {
	t.Helper()
	for number, f := range m.Funcs {
		for i, x := range f.Code {
			if r := code.Writes(x); r != -1 && (r < 0 || r >= f.Regs) {
				t.Errorf("%v: function %d, instruction %d writes %d", m, number, i, r)
			}
			for r := range code.Reads(x, paramsOf(m, x)) {
				if r < 0 || r >= f.Regs {
					t.Errorf("%v: function %d, instruction %d reads %d", m, number, i, r)
				}
			}
			if leads(x) && (x.N < 0 || x.N >= int64(len(f.Code))) {
				t.Errorf("%v: function %d, instruction %d leads to %d", m, number, i, x.N)
			}
		}
		for other, g := range m.Funcs {
			if other != number && f.Name == g.Name {
				t.Errorf("%v: functions %d and %d are both %s", m, number, other, f.Name)
			}
		}
		if n := code.Find(m, f.Name); n != number {
			t.Errorf("%v: Find(%q): %d, not %d", m, f.Name, n, number)
		}
	}
}

// paramsOf is how many parameters the function has that an instruction calls.
func paramsOf(m api.Module, x api.Ins) int {
	if x.Op != api.OpCall {
		return 0
	}
	return len(m.Funcs[x.N].Params)
}

func leads(x api.Ins) bool {
	return slices.Contains([]int{api.OpJump, api.OpIf, api.OpUnless, api.OpCount, api.OpStep}, x.Op)
}

// P9.6: modules with as many of everything as may be, whose instructions name the last of everything.
func TestFullFollows(t *testing.T) {
	m := api.Module{Thresholds: rising(16)}
	for number, f := range named(32) {
		f.Params, f.Regs, f.Words, f.Code = make([]api.Span, 8), 64, 4096, nil
		for i := range 1024 {
			x := api.Ins{Op: (i + number) % 20}
			for _, field := range operations[x.Op].fields {
				set(&x, field, 63)
			}
			switch operations[x.Op].word {
			case "call":
				x.B, x.N = 56, 31
			case "check":
				x.N = 4096
			case "jump", "if", "unless", "count", "step":
				x.N = 1023
			}
			f.Code = append(f.Code, x)
		}
		f.Code[1023] = api.Ins{Op: api.OpJump, N: 1023}
		m.Funcs = append(m.Funcs, f)
	}
	fault(t, "a full module", m, api.Fault{})
	follows(t, m)
}
