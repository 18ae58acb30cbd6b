package trips_test

import (
	"slices"
	"testing"

	"soffit/api"
	"soffit/code"
	"soffit/loops"
)

// wrongModules are modules that may not be, each for one reason; the function 0 of each has a loop that doesn't count.
func wrongModules() map[string]api.Module {
	right := func() api.Module {
		return text("widen 1 5", "func f 2 4", "set 0 1", "step 0 0", "func g 2 0 0 5", "set 1 1", "call 0 1 1", "ret 0")
	}
	all := map[string]api.Module{}
	for what, spoil := range map[string]func(m *api.Module){
		"thresholds":   func(m *api.Module) { m.Thresholds[1] = 1 },
		"17":           func(m *api.Module) { m.Thresholds = make([]int64, 17) },
		"functions":    func(m *api.Module) { m.Funcs = make([]api.Func, 33) },
		"name":         func(m *api.Module) { m.Funcs[1].Name = "G" },
		"twice":        func(m *api.Module) { m.Funcs[1].Name = "f" },
		"parameters":   func(m *api.Module) { m.Funcs[1].Params = make([]api.Span, 9) },
		"empty":        func(m *api.Module) { m.Funcs[1].Params[0].Lo = 6 },
		"no registers": func(m *api.Module) { m.Funcs[1].Regs = 0 },
		"registers":    func(m *api.Module) { m.Funcs[1].Regs = 65 },
		"words":        func(m *api.Module) { m.Funcs[0].Words = 4097 },
		"words below":  func(m *api.Module) { m.Funcs[1].Words = -1 },
		"no code":      func(m *api.Module) { m.Funcs[1].Code = nil },
		"code":         func(m *api.Module) { m.Funcs[1].Code = make([]api.Ins, 1025) },
		"operation":    func(m *api.Module) { m.Funcs[0].Code[0].Op = 20 },
		"unused":       func(m *api.Module) { m.Funcs[1].Code[0].C = 1 },
		"register":     func(m *api.Module) { m.Funcs[0].Code[0].A = 2 },
		"target":       func(m *api.Module) { m.Funcs[0].Code[1].N = 2 },
		"call":         func(m *api.Module) { m.Funcs[1].Code[1].N = 2 },
		"room":         func(m *api.Module) { m.Funcs[1].Params = []api.Span{{}, {}} },
		"fall":         func(m *api.Module) { m.Funcs[1].Code[2] = api.Ins{Op: api.OpSet} },
	} {
		m := right()
		spoil(&m)
		all[what] = m
	}
	return all
}

// P17.1: code.May's error goes ahead of there being no such function, and of a loop that doesn't count.
func TestMayNotBe(t *testing.T) {
	numbers := map[string]api.Errno{
		"thresholds": 66, "17": 3, "functions": 3, "name": 8, "twice": 9, "parameters": 3, "empty": 40, "no registers": 95, "registers": 95, "words": 96, "words below": 96,
		"no code": 97, "code": 97, "operation": 60, "unused": 62, "register": 61, "target": 63, "call": 65, "room": 65, "fall": 64,
	}
	for what, m := range wrongModules() {
		if e := code.May(m).E; e != numbers[what] {
			t.Errorf("the test's own module %s: %d", what, e)
		}
		for _, fn := range []int{0, 1, 2, -1, least, most} {
			refused(t, what, m, fn, numbers[what])
		}
	}
}

// P17.1: there is no such function.
func TestNoFunction(t *testing.T) {
	m := text("func f 2 0", "set 0 1", "step 0 0", "func g 1 0", "ret 0")
	for _, fn := range []int{2, 3, -1, -2, least, most, 1 << 32, 1<<32 + 1} {
		refused(t, "no such function", m, fn, api.ErrArg)
	}
	for fn := -1; fn < 2; fn++ {
		refused(t, "no functions", api.Module{}, fn, api.ErrArg)
		refused(t, "thresholds alone", api.Module{Thresholds: []int64{1, 2}}, fn, api.ErrArg)
	}
	refused(t, "a function in spare room", api.Module{Funcs: m.Funcs[:1]}, 1, api.ErrArg)
}

// uncounted are functions of which a loop doesn't count, each with its error.
func uncounted() map[string]struct {
	m api.Module
	e api.Errno
} {
	type refusal = struct {
		m api.Module
		e api.Errno
	}
	return map[string]refusal{
		"entered at two places":         {text("func f 2 0", "if 0 2", "jump 2", "jump 1"), api.ErrReduce},
		"a count entered at two places": {text("func f 2 0", "if 0 2", "count 0 1 3", "step 0 1", "ret 0"), api.ErrReduce},
		"no count":                      {text("func f 2 0", "if 0 2", "step 0 0", "ret 0"), api.ErrHead},
		"a jump to itself":              {text("func f 2 0", "set 0 1", "jump 1"), api.ErrHead},
		"a step to itself":              {text("func f 2 0", "step 0 0"), api.ErrHead},
		"a count to itself":             {text("func f 2 0", "count 0 1 0", "ret 0"), api.ErrBack},
		"a jump back":                   {text("func f 2 0", "count 0 1 2", "jump 0", "ret 0"), api.ErrBack},
		"another step":                  {text("func f 2 0", "count 0 1 2", "step 1 0", "ret 0"), api.ErrBack},
		"one of two ways back":          {text("func f 3 0", "count 0 1 3", "unless 2 0", "step 0 0", "ret 0"), api.ErrBack},
		"the count is written":          {text("func f 2 0", "count 0 1 3", "set 0 1", "step 0 0", "ret 0"), api.ErrDrive},
		"the bound is written":          {text("func f 2 0", "count 0 1 3", "set 1 1", "step 0 0", "ret 0"), api.ErrDrive},
		"count and bound are one":       {text("func f 2 0", "count 0 0 2", "step 0 0", "ret 0"), api.ErrDrive},
		"no way out":                    {text("func f 3 0", "count 0 1 2", "if 2 3", "step 0 0", "ret 0"), api.ErrExit},
		"both ways are one":             {text("func f 3 0", "count 0 1 1", "if 2 3", "step 0 0", "ret 0"), api.ErrExit},
		"the inner one":                 {text("func f 4 0", "count 0 1 5", "count 2 3 4", "set 3 1", "step 2 1", "step 0 0", "ret 0"), api.ErrDrive},
		"the outer one":                 {text("func f 4 0", "count 0 1 5", "count 2 3 4", "set 1 1", "step 2 1", "step 0 0", "ret 0"), api.ErrDrive},
		"the second one":                {text("func f 4 0", "count 0 1 2", "step 0 0", "count 2 3 4", "jump 2", "ret 0"), api.ErrBack},
		"nothing comes to it":           {text("func f 2 0 5 9", "check 0 4", "count 1 0 4", "set 1 1", "step 1 1", "ret 0"), api.ErrDrive},
		"it is never gone into":         {text("func f 2 0", "count 0 1 3", "set 1 1", "step 0 0", "ret 0"), api.ErrDrive},
		"the first of several":          {text("func f 4 0", "count 0 1 3", "set 0 1", "step 0 0", "jump 3"), api.ErrDrive},
		"ahead of the head's own":       {text("func f 4 0", "count 0 1 3", "set 0 1", "step 0 0", "if 0 5", "jump 5", "jump 4"), api.ErrReduce},
	}
}

// P17.1: a loop that doesn't count has the error that loops.Find tells of its function.
func TestUncounted(t *testing.T) {
	for what, c := range uncounted() {
		refused(t, what, c.m, 0, c.e)
		if _, e, _ := loops.Find(c.m.Funcs[0]); e != c.e {
			t.Errorf("the test's own function %s: %d", what, e)
		}
	}
}

// P17.1: what can't be reached is in no loop, and has no error.
func TestUncountedNotReached(t *testing.T) {
	for what, c := range uncounted() {
		f := &c.m.Funcs[0]
		for at := range f.Code {
			if slices.Contains([]int{api.OpJump, api.OpStep, api.OpIf, api.OpUnless, api.OpCount}, f.Code[at].Op) {
				f.Code[at].N++
			}
		}
		f.Code = append([]api.Ins{{Op: api.OpRet}}, f.Code...)
		told(t, what, c.m, 0)
	}
}

// P17.1: an error of one function is not another one's; no such function goes ahead of any loop's error.
func TestUncountedApart(t *testing.T) {
	for what, c := range uncounted() {
		other := text("func g 2 0", "set 1 6", "count 0 1 3", "step 0 1", "ret 0").Funcs[0]
		m := api.Module{Funcs: []api.Func{c.m.Funcs[0], other}}
		told(t, what+" beside", m, 1, 6)
		refused(t, what, m, 0, c.e)
		refused(t, what, m, 2, api.ErrArg)
		refused(t, what, m, -1, api.ErrArg)
		m.Funcs[0], m.Funcs[1] = m.Funcs[1], m.Funcs[0]
		told(t, what+" behind", m, 0, 6)
		refused(t, what, m, 1, c.e)
		m.Funcs[1].Code = append(slices.Clone(m.Funcs[1].Code), api.Ins{Op: api.OpSet})
		refused(t, what+", with a fault", m, 0, api.ErrFall)
		refused(t, what+", with a fault", m, 1, api.ErrFall)
	}
}
