package cost_test

import (
	"slices"
	"testing"

	"soffit/api"
	"soffit/code"
	"soffit/loops"
)

// wrongModules are modules that may not be, each for one reason; the function 0 of each has a loop that doesn't count.
func wrongModules() map[string]api.Module {
	right := func() api.Module {
		return text("widen 1 5", "func f 2 4", "set 0 1", "step 0 0", "func g 2 0 0 5", "set 1 1", "call 0 1 1", "ret 0")
	}
	all := map[string]api.Module{}
	for what, spoil := range map[string]func(m *api.Module){
		"thresholds":   func(m *api.Module) { m.Thresholds[1] = 1 },
		"17":           func(m *api.Module) { m.Thresholds = make([]int64, 17) },
		"functions":    func(m *api.Module) { m.Funcs = make([]api.Func, 33) },
		"name":         func(m *api.Module) { m.Funcs[1].Name = "G" },
		"twice":        func(m *api.Module) { m.Funcs[1].Name = "f" },
		"parameters":   func(m *api.Module) { m.Funcs[1].Params = make([]api.Span, 9) },
		"empty":        func(m *api.Module) { m.Funcs[1].Params[0].Lo = 6 },
		"no registers": func(m *api.Module) { m.Funcs[1].Regs = 0 },
		"registers":    func(m *api.Module) { m.Funcs[1].Regs = 65 },
		"words":        func(m *api.Module) { m.Funcs[0].Words = 4097 },
		"words below":  func(m *api.Module) { m.Funcs[1].Words = -1 },
		"no code":      func(m *api.Module) { m.Funcs[1].Code = nil },
		"code":         func(m *api.Module) { m.Funcs[1].Code = make([]api.Ins, 1025) },
		"operation":    func(m *api.Module) { m.Funcs[0].Code[0].Op = 20 },
		"unused":       func(m *api.Module) { m.Funcs[1].Code[0].C = 1 },
		"register":     func(m *api.Module) { m.Funcs[0].Code[0].A = 2 },
		"target":       func(m *api.Module) { m.Funcs[0].Code[1].N = 2 },
		"call":         func(m *api.Module) { m.Funcs[1].Code[1].N = 2 },
		"room":         func(m *api.Module) { m.Funcs[1].Params = []api.Span{{}, {}} },
		"fall":         func(m *api.Module) { m.Funcs[1].Code[2] = api.Ins{Op: api.OpSet} },
	} {
		m := right()
		spoil(&m)
		all[what] = m
	}
	return all
}

// P18.1: code.May's fault goes ahead of a loop that doesn't count, of functions that call one another round, and of a ceiling.
func TestMayNotBe(t *testing.T) {
	for what, m := range wrongModules() {
		fault := code.May(m)
		if fault.E == api.OK {
			t.Errorf("the test's own module %s", what)
		}
		refused(t, what, m, fault.E, fault.Func, fault.At)
	}
	round := text("func f 1 0", "call 0 0 1", "ret 0", "func g 1 0", "call 0 0 0", "ret 0")
	round.Funcs[1].Code[1] = api.Ins{Op: api.OpSet}
	refused(t, "functions that call one another", round, api.ErrFall, 1, 1)
	round.Funcs[1].Code[0].N = 2
	refused(t, "functions that call one another", round, api.ErrCall, 1, 0)
	long := text("func f 2 0", "set 1 9223372036854775807", "count 0 1 3", "step 0 1", "ret 0", "func g 1 0", "ret 0")
	long.Funcs[1].Regs = 0
	refused(t, "too many steps", long, api.ErrRegs, 1, 0)
	long.Funcs[0].Code[3].B = 1
	refused(t, "heads of functions first", long, api.ErrRegs, 1, 0)
	long.Funcs[1].Regs = 1
	refused(t, "its own instruction", long, api.ErrUnused, 0, 3)
}

// uncounted are functions of which a loop doesn't count, each with its error.
func uncounted() map[string]struct {
	m api.Module
	e api.Errno
} {
	type refusal = struct {
		m api.Module
		e api.Errno
	}
	return map[string]refusal{
		"entered at two places":         {text("func f 2 0", "if 0 2", "jump 2", "jump 1"), api.ErrReduce},
		"a count entered at two places": {text("func f 2 0", "if 0 2", "count 0 1 3", "step 0 1", "ret 0"), api.ErrReduce},
		"no count":                      {text("func f 2 0", "if 0 2", "step 0 0", "ret 0"), api.ErrHead},
		"a jump to itself":              {text("func f 2 0", "set 0 1", "jump 1"), api.ErrHead},
		"a step to itself":              {text("func f 2 0", "step 0 0"), api.ErrHead},
		"a count to itself":             {text("func f 2 0", "count 0 1 0", "ret 0"), api.ErrBack},
		"a jump back":                   {text("func f 2 0", "count 0 1 2", "jump 0", "ret 0"), api.ErrBack},
		"another step":                  {text("func f 2 0", "count 0 1 2", "step 1 0", "ret 0"), api.ErrBack},
		"one of two ways back":          {text("func f 3 0", "count 0 1 3", "unless 2 0", "step 0 0", "ret 0"), api.ErrBack},
		"the count is written":          {text("func f 2 0", "count 0 1 3", "set 0 1", "step 0 0", "ret 0"), api.ErrDrive},
		"the bound is written":          {text("func f 2 0", "count 0 1 3", "set 1 1", "step 0 0", "ret 0"), api.ErrDrive},
		"count and bound are one":       {text("func f 2 0", "count 0 0 2", "step 0 0", "ret 0"), api.ErrDrive},
		"no way out":                    {text("func f 3 0", "count 0 1 2", "if 2 3", "step 0 0", "ret 0"), api.ErrExit},
		"both ways are one":             {text("func f 3 0", "count 0 1 1", "if 2 3", "step 0 0", "ret 0"), api.ErrExit},
		"the inner one":                 {text("func f 4 0", "count 0 1 5", "count 2 3 4", "set 3 1", "step 2 1", "step 0 0", "ret 0"), api.ErrDrive},
		"the outer one":                 {text("func f 4 0", "count 0 1 5", "count 2 3 4", "set 1 1", "step 2 1", "step 0 0", "ret 0"), api.ErrDrive},
		"the second one":                {text("func f 4 0", "count 0 1 2", "step 0 0", "count 2 3 4", "jump 2", "ret 0"), api.ErrBack},
		"nothing comes to it":           {text("func f 2 0 5 9", "check 0 4", "count 1 0 4", "set 1 1", "step 1 1", "ret 0"), api.ErrDrive},
		"it is never gone into":         {text("func f 2 0", "count 0 1 3", "set 1 1", "step 0 0", "ret 0"), api.ErrDrive},
		"the first of several":          {text("func f 4 0", "count 0 1 3", "set 0 1", "step 0 0", "jump 3"), api.ErrDrive},
		"ahead of the head's own":       {text("func f 4 0", "count 0 1 3", "set 0 1", "step 0 0", "if 0 5", "jump 5", "jump 4"), api.ErrReduce},
	}
}

// places are the instructions at which their loops do not count.
func places() map[string]int {
	return map[string]int{
		"entered at two places": 1, "a count entered at two places": 1, "no count": 0, "a jump to itself": 1, "a step to itself": 0, "a count to itself": 0, "a jump back": 1, "another step": 1, "one of two ways back": 1,
		"the count is written": 1, "the bound is written": 1, "count and bound are one": 1, "no way out": 0, "both ways are one": 0, "the inner one": 2, "the outer one": 2, "the second one": 3,
		"nothing comes to it": 2, "it is never gone into": 1, "the first of several": 1, "ahead of the head's own": 4,
	}
}

// P18.1: a loop that doesn't count has the error that loops.Find tells of its function, at its instruction.
func TestUncounted(t *testing.T) {
	at := places()
	for what, c := range uncounted() {
		refused(t, what, c.m, c.e, 0, at[what])
		if _, e, place := loops.Find(c.m.Funcs[0]); e != c.e || place != at[what] {
			t.Errorf("the test's own function %s: %d, %d", what, e, place)
		}
	}
}

// named is a function by another name.
func named(f api.Func, name string) api.Func {
	f.Name = name
	return f
}

// P18.1: of several functions whose loops don't count the first one is told, whichever its error; others around it do not matter.
func TestUncountedOrder(t *testing.T) {
	at := places()
	right := text("func r 2 0", "set 1 6", "count 0 1 3", "step 0 1", "ret 0").Funcs[0]
	all := uncounted()
	for what, c := range all {
		bad := c.m.Funcs[0]
		refused(t, what+", late", api.Module{Funcs: []api.Func{right, named(right, "s"), bad}}, c.e, 2, at[what])
		refused(t, what+", in the middle", api.Module{Funcs: []api.Func{right, bad, named(right, "s")}}, c.e, 1, at[what])
		for other, d := range all {
			refused(t, what+" ahead of "+other, api.Module{Funcs: []api.Func{right, bad, named(d.m.Funcs[0], "g")}}, c.e, 1, at[what])
		}
	}
}

// P18.1: what can't be reached is in no loop, and has no fault.
func TestUncountedNotReached(t *testing.T) {
	for what, c := range uncounted() {
		f := &c.m.Funcs[0]
		for at := range f.Code {
			if slices.Contains([]int{api.OpJump, api.OpStep, api.OpIf, api.OpUnless, api.OpCount}, f.Code[at].Op) {
				f.Code[at].N++
			}
		}
		f.Code = append([]api.Ins{{Op: api.OpRet}}, f.Code...)
		told(t, what, c.m, api.Ceiling{Steps: 1, Frames: 1, Words: int64(f.Regs)})
	}
}

// P18.1: calls.Order's fault: functions that call one another round, behind loops that don't count in any function, ahead of any ceiling.
func TestRound(t *testing.T) {
	refused(t, "itself", text("func f 1 0", "set 0 1", "call 0 0 0", "ret 0"), api.ErrCycle, 0, 1)
	refused(t, "one another", text("func f 1 0", "set 0 1", "set 0 2", "call 0 0 1", "ret 0", "func g 1 0", "call 0 0 0", "ret 0"), api.ErrCycle, 0, 2)
	refused(t, "two behind one that calls them", text("func f 1 0", "call 0 0 1", "ret 0", "func g 1 0", "set 0 1", "call 0 0 2", "ret 0", "func h 1 0", "call 0 0 1", "ret 0"), api.ErrCycle, 1, 1)
	refused(t, "three, the least of them", text("func f 1 0", "ret 0", "func g 1 0", "if 0 2", "ret 0", "call 0 0 2", "ret 0", "func h 1 0", "call 0 0 3", "ret 0", "func i 1 0", "call 0 0 1", "ret 0"), api.ErrCycle, 1, 2)
	refused(t, "on a way that isn't gone", text("func f 1 0", "set 0 0", "if 0 3", "ret 0", "call 0 0 0", "ret 0"), api.ErrCycle, 0, 3)
	refused(t, "in a loop without rounds", text("func f 3 0", "count 0 1 3", "call 2 2 0", "step 0 0", "ret 0"), api.ErrCycle, 0, 1)
	told(t, "not reached", text("func f 1 0", "ret 0", "call 0 0 0", "ret 0"), c(1, 1, 1))
	for what, d := range uncounted() {
		at := places()[what]
		bad := named(d.m.Funcs[0], "z")
		round := text("func f 1 0", "call 0 0 1", "ret 0", "func g 1 0", "call 0 0 0", "ret 0")
		refused(t, what+" behind functions that call one another", api.Module{Funcs: append(slices.Clone(round.Funcs), bad)}, d.e, 2, at)
		self := text("func a 1 0", "ret 0", "func f 1 0", "call 0 0 1", "ret 0")
		refused(t, what+" ahead of one that calls itself", api.Module{Funcs: []api.Func{bad, self.Funcs[1]}}, d.e, 0, at)
	}
}

// P18.1: a ceiling's fault comes behind all others, in whichever functions they are.
func TestCeilingLast(t *testing.T) {
	long := text("func long 2 0", "set 1 9223372036854775807", "count 0 1 3", "step 0 1", "ret 0").Funcs[0]
	refused(t, "alone", api.Module{Funcs: []api.Func{long}}, api.ErrCeiling, 0, 1)
	for what, d := range uncounted() {
		at := places()[what]
		bad := d.m.Funcs[0]
		refused(t, what+" behind it", api.Module{Funcs: []api.Func{long, bad}}, d.e, 1, at)
		refused(t, what+" ahead of it", api.Module{Funcs: []api.Func{bad, long}}, d.e, 0, at)
	}
	round := text("func a 1 0", "ret 0", "func f 1 0", "call 0 0 2", "ret 0", "func g 1 0", "call 0 0 1", "ret 0").Funcs
	refused(t, "functions that call one another, behind it", api.Module{Funcs: []api.Func{long, round[1], round[2]}}, api.ErrCycle, 1, 0)
	both := text("func f 2 0", "set 1 9223372036854775807", "count 0 1 3", "step 0 1", "call 0 0 0", "ret 0")
	refused(t, "one that calls itself, and has too many steps", both, api.ErrCycle, 0, 3)
	bad := text("func f 3 0", "set 1 9223372036854775807", "count 0 1 3", "step 0 1", "jump 3")
	refused(t, "one that has too many steps, and a loop that doesn't count", bad, api.ErrHead, 0, 3)
}
