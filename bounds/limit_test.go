package bounds_test

import (
	"slices"
	"strings"
	"testing"

	"soffit/api"
)

func module(thresholds []int64, funcs ...api.Func) api.Module {
	return api.Module{Thresholds: thresholds, Funcs: funcs}
}

func function(regs int, code ...api.Ins) api.Func {
	return api.Func{Name: "f", Regs: regs, Code: code}
}

// times is a row of the same instruction.
func times(n int, x api.Ins) []api.Ins { return slices.Repeat([]api.Ins{x}, n) }

// P16.2: just as many instructions as may be, whose last one is come to in the first round, or by a round each; of one more ErrCode.
func TestMostCode(t *testing.T) {
	if api.MaxCode != 1024 {
		t.Fatal("the test's own limit")
	}
	for _, length := range []int{1023, 1024} {
		up := append(times(length-1, api.Ins{Op: api.OpAdd, A: 0, B: 0, C: 1}), api.Ins{})
		f := function(2, up...)
		f.Params = l(s(0, 1), s(0, 1))
		a := done(t, "up", module(nil, f), 0)
		for at := range length {
			stands(t, "up", a, at, s(0, int64(at)+1), s(0, 1))
			changed(t, "up", a, at, 0, 0)
		}
		// Each one marks the one ahead of it, of the last one on.
		f.Code = nil
		for at := range length {
			f.Code = append(f.Code, api.Ins{Op: api.OpStep, A: 0, N: int64(at - 1)})
		}
		f.Code[0] = api.Ins{Op: api.OpJump, N: int64(length - 1)}
		f.Code[1] = api.Ins{}
		a = done(t, "down", module(nil, f), 0)
		stands(t, "down", a, 0, s(0, 1), s(0, 1))
		for at := 1; at < length; at++ {
			up := int64(length - 1 - at)
			stands(t, "down", a, at, s(up, up+1), s(0, 1))
			changed(t, "down", a, at, 0, 0)
		}
	}
	for _, length := range []int{1025, 1026, 2048} {
		refused(t, "more", module(nil, function(1, times(length, api.Ins{})...)), 0, api.ErrCode)
		refused(t, "more, of another one", module(nil, function(1, api.Ins{}), api.Func{Name: "g", Regs: 1, Code: times(length, api.Ins{})}), 0, api.ErrCode)
		shut(t, "more", module(nil, function(1, times(length, api.Ins{Op: api.OpJump})...)), 0, 0, 0, l(n(0)))
	}
}

// P16.2: just as many registers, parameters and words as may be, and more.
func TestMostRegisters(t *testing.T) {
	if api.MaxRegs != 64 || api.MaxParams != 8 || api.MaxWords != 4096 {
		t.Fatal("the test's own limits")
	}
	f := function(64)
	for i := range int64(8) {
		f.Params = append(f.Params, s(i, i+1))
	}
	for r := 8; r < 64; r++ {
		f.Code = append(f.Code, api.Ins{Op: api.OpAdd, A: r, B: r, C: 1})
	}
	f.Code = append(f.Code, api.Ins{Op: api.OpJump})
	a := done(t, "64", module(nil, f), 0)
	for at := range f.Code {
		if len(a.In[at]) != 64 || len(a.Changes[at]) != 64 {
			t.Fatalf("at %d %v, %v", at, a.In[at], a.Changes[at])
		}
		for r := range 64 {
			want, times := all, 6
			if r < 8 {
				want, times = s(int64(r), int64(r)+1), 0
			} else if r-8 < at {
				// Where the register was added to already it is one ahead.
				times = 5
			}
			if a.In[at][r] != want || a.Changes[at][r] != times {
				t.Fatalf("R[%d] at %d: %v, %d", r, at, a.In[at][r], a.Changes[at][r])
			}
		}
	}
	f.Regs = 65
	refused(t, "65 registers", module(nil, f), 0, api.ErrRegs)
	f.Regs, f.Words = 64, 4096
	done(t, "4096 words", module(nil, f), 0)
	f.Words = 4097
	refused(t, "4097 words", module(nil, f), 0, api.ErrWords)
	f.Words, f.Params = 0, append(f.Params, n(0))
	refused(t, "9 parameters", module(nil, f), 0, api.ErrMany)
}

// P16.2: just as many functions and thresholds as may be, and more.
func TestMostFunctions(t *testing.T) {
	if api.MaxFuncs != 32 || api.MaxThresholds != 16 {
		t.Fatal("the test's own limits")
	}
	var m api.Module
	for fn := range 33 {
		m.Funcs = append(m.Funcs, api.Func{Name: "f" + strings.Repeat("g", fn%8) + strings.Repeat("h", fn/8), Regs: 1, Params: l(n(int64(fn))), Code: []api.Ins{{Op: api.OpSet, N: int64(fn) * 2}, {}}})
	}
	refused(t, "33 functions", m, 0, api.ErrMany)
	refused(t, "33 functions", m, 33, api.ErrMany)
	m.Funcs = m.Funcs[:32]
	for fn := range 32 {
		a := done(t, "32 functions", m, fn)
		stands(t, "32 functions", a, 0, n(int64(fn)))
		stands(t, "32 functions", a, 1, n(int64(fn)*2))
	}
	refused(t, "32 functions", m, 32, api.ErrArg)
	list := make([]int64, 17)
	for i := range list {
		list[i] = int64(i) + 5
	}
	m = module(list, function(1, api.Ins{Op: api.OpStep}))
	refused(t, "17 thresholds", m, 0, api.ErrMany)
	m.Thresholds = list[:16]
	a := done(t, "16 thresholds", m, 0)
	stands(t, "16 thresholds", a, 0, all)
	changed(t, "16 thresholds", a, 0, 22)
}

// serial is code of just so many instructions as may be, in which each register grows when the one ahead of it is at all numbers, and then by thresholds.
func serial() api.Func {
	f := function(64)
	f.Params = l(n(1), n(0))
	// R[0] is 1, R[1] 0; R[2] tells whether the one ahead may be below 0.
	f.Code = []api.Ins{{Op: api.OpAdd, A: 3, B: 3, C: 0}}
	for r := 4; r < 64; r++ {
		f.Code = append(f.Code, api.Ins{Op: api.OpLess, A: 2, B: r - 1, C: 1}, api.Ins{Op: api.OpAdd, A: r, B: r, C: 2})
	}
	f.Code = append(f.Code, times(1023-len(f.Code), api.Ins{Op: api.OpMove, A: 1, B: 1})...)
	f.Code = append(f.Code, api.Ins{Op: api.OpJump})
	return f
}

// P16.3: it ends soon enough, also where registers grow one behind the other, each by as many thresholds as may be.
func TestSerial(t *testing.T) {
	list := make([]int64, 16)
	for i := range list {
		list[i] = int64(i) + 1
	}
	for _, thresholds := range [][]int64{nil, list} {
		a := follows(t, module(thresholds, serial()), 0)
		// Once the first one has grown each is widened at once: to each threshold, the greatest number, and all.
		want := slices.Repeat([]int{2 + len(thresholds)}, 60)
		if got := a.Changes[0][4:]; !slices.Equal(got, want) {
			t.Errorf("with %v: changed at 0 %v", thresholds, got)
		}
		for r := 3; r < 64; r++ {
			if a.In[1023][r] != all {
				t.Errorf("R[%d]: %v", r, a.In[1023][r])
			}
		}
	}
}
