package code_test

import (
	"testing"

	"soffit/api"
	"soffit/code"
)

// P9.5: the first function of a name, whether the module may be or not.
func TestFind(t *testing.T) {
	of := func(names ...string) api.Module {
		var m api.Module
		for _, s := range names {
			m.Funcs = append(m.Funcs, api.Func{Name: s})
		}
		return m
	}
	long := fullName + fullName
	for _, c := range []struct {
		m    api.Module
		name string
		want int
	}{
		{of("a", "b", "a"), "a", 0},
		{of("a", "b", "a"), "b", 1},
		{of("b", "a", "a"), "a", 1},
		{of("a", "b", "c"), "c", 2},
		{of("a", "b", "c"), "d", -1},
		{of("a", "b", "c"), "", -1},
		{of("a", "", ""), "", 1},
		{of(""), "", 0},
		{of(), "a", -1},
		{of(), "", -1},
		{of("ab", "abc", "bc"), "a", -1},
		{of("ab", "abc", "bc"), "abcd", -1},
		{of("ab", "abc", "bc"), "abc", 1},
		{of("A", "a"), "a", 1},
		{of("F", "7", "a b"), "a b", 2},
		{of("a", long), long, 1},
		{of("a", long), long + "a", -1},
		{of("a", "\xff"), "\xff", 1},
		{of("a", "\xff"), "\xfe", -1},
		{module(named(32)...), "f31", 31},
		{module(named(100)...), "f99", 99},
	} {
		if n := code.Find(c.m, c.name); n != c.want {
			t.Errorf("Find(%v, %q): %d, not %d", c.m, c.name, n, c.want)
		}
	}
}

// differ holds two modules to be told apart, from both sides.
func differ(t *testing.T, what string, a, b api.Module) {
	t.Helper()
	if code.Same(a, b) || code.Same(b, a) {
		t.Errorf("%s: not told apart", what)
	}
}

func alike(t *testing.T, what string, a, b api.Module) {
	t.Helper()
	if !code.Same(a, b) || !code.Same(b, a) {
		t.Errorf("%s: told apart", what)
	}
}

// full has something in each field, whether that may be or not.
func full() api.Module {
	f := func(name string) api.Func {
		return api.Func{Name: name, Params: []api.Span{{Lo: 1, Hi: 2}, {Lo: 3, Hi: 4}}, Regs: 7, Words: 8, Code: []api.Ins{{Op: 1, A: 2, B: 3, C: 4, N: 5}, {Op: 6, A: 7, B: 8, C: 9, N: 10}}}
	}
	return api.Module{Thresholds: []int64{5, 3}, Funcs: []api.Func{f("f"), f("g")}}
}

func moduleChanges(m *api.Module) map[string]func() {
	return map[string]func(){
		"the first threshold": func() { m.Thresholds[0]++ }, "the last threshold": func() { m.Thresholds[1] = -3 },
		"fewer thresholds": func() { m.Thresholds = m.Thresholds[:1] }, "no thresholds": func() { m.Thresholds = nil }, "more thresholds": func() { m.Thresholds = append(m.Thresholds, 0) },
		"the order of thresholds": func() { m.Thresholds[0], m.Thresholds[1] = m.Thresholds[1], m.Thresholds[0] },
		"fewer functions":         func() { m.Funcs = m.Funcs[:1] }, "no functions": func() { m.Funcs = nil }, "more functions": func() { m.Funcs = append(m.Funcs, api.Func{}) },
		"the order of functions": func() { m.Funcs[0], m.Funcs[1] = m.Funcs[1], m.Funcs[0] },
	}
}

func funcChanges(f *api.Func) map[string]func() {
	return map[string]func(){
		"name": func() { f.Name += "a" }, "no name": func() { f.Name = "" }, "Regs": func() { f.Regs++ }, "Words": func() { f.Words++ }, "Regs and Words": func() { f.Regs, f.Words = f.Words, f.Regs },
		"the first parameter's Lo": func() { f.Params[0].Lo-- }, "the last parameter's Lo": func() { f.Params[1].Lo++ }, "the first parameter's Hi": func() { f.Params[0].Hi++ }, "the last parameter's Hi": func() { f.Params[1].Hi-- },
		"fewer parameters": func() { f.Params = f.Params[:1] }, "no parameters": func() { f.Params = nil }, "more parameters": func() { f.Params = append(f.Params, api.Span{}) },
		"the order of parameters": func() { f.Params[0], f.Params[1] = f.Params[1], f.Params[0] },
		"fewer instructions":      func() { f.Code = f.Code[:1] }, "no instructions": func() { f.Code = nil }, "more instructions": func() { f.Code = append(f.Code, api.Ins{}) },
		"the order of instructions": func() { f.Code[0], f.Code[1] = f.Code[1], f.Code[0] },
	}
}

func insChanges(x *api.Ins) map[string]func() {
	return map[string]func(){
		"Op": func() { x.Op++ }, "A": func() { x.A = -x.A }, "B": func() { x.B++ }, "C": func() { x.C = 0 }, "N": func() { x.N-- },
		"an upper bit of A": func() { x.A += 1 << 32 }, "an upper bit of N": func() { x.N ^= least }, "A and B": func() { x.A, x.B = x.B, x.A },
	}
}

// P9.5: a change of any field is seen, and the same change on both sides is none.
func TestDiffer(t *testing.T) {
	alike(t, "two that are full", full(), full())
	try := func(what string, changes func(m *api.Module) map[string]func()) {
		m := full()
		for key := range changes(&m) {
			a, b := full(), full()
			changes(&a)[key]()
			differ(t, what+": "+key, full(), a)
			changes(&b)[key]()
			alike(t, what+": the same change of "+key, a, b)
		}
	}
	try("module", moduleChanges)
	for f := range 2 {
		try("function", func(m *api.Module) map[string]func() { return funcChanges(&m.Funcs[f]) })
		for i := range 2 {
			try("instruction", func(m *api.Module) map[string]func() { return insChanges(&m.Funcs[f].Code[i]) })
		}
	}
}

// P9.5: lists without elements are the same, nil or not.
func TestEmptyLists(t *testing.T) {
	alike(t, "nothing", api.Module{}, api.Module{Thresholds: []int64{}, Funcs: []api.Func{}})
	alike(t, "a function", module(api.Func{}), module(api.Func{Params: []api.Span{}, Code: []api.Ins{}}))
	differ(t, "a function and none", api.Module{}, module(api.Func{}))
	differ(t, "a threshold 0 and none", api.Module{}, api.Module{Thresholds: []int64{0}})
	differ(t, "a ret and nothing", module(api.Func{}), module(api.Func{Code: rets(1)}))
	differ(t, "a parameter {0, 0} and none", module(api.Func{}), module(api.Func{Params: make([]api.Span, 1)}))
}

// P9.5: what is the same is so whatever memory it stands in, and of modules that may not be, too.
func TestSame(t *testing.T) {
	m := base()
	alike(t, "one module", m, m)
	alike(t, "two that may be", m, base())
	alike(t, "too many functions", module(named(100)...), module(named(100)...))
	differ(t, "the last of many functions", module(named(100)...), module(append(named(99), fn("g", 0, 1))...))
	alike(t, "too many instructions", module(api.Func{Code: rets(5000)}), module(api.Func{Code: rets(5000)}))
	differ(t, "one instruction fewer", module(api.Func{Code: rets(5000)}), module(api.Func{Code: rets(4999)}))
}
