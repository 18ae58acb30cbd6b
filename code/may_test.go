package code_test

import (
	"fmt"
	"slices"
	"strings"
	"testing"

	"soffit/api"
	"soffit/code"
)

var (
	ret      = api.Ins{Op: api.OpRet}
	fullName = strings.Repeat("a", api.MaxName)
)

func fault(t *testing.T, what string, m api.Module, want api.Fault) {
	t.Helper()
	if f := code.May(m); f != want {
		t.Errorf("%s: %v, not %v", what, f, want)
	}
}

func module(funcs ...api.Func) api.Module { return api.Module{Funcs: funcs} }

// fn is a function that may be.
func fn(name string, params, regs int, list ...api.Ins) api.Func {
	return api.Func{Name: name, Params: make([]api.Span, params), Regs: regs, Code: append(list, ret)}
}

// rets is so many instructions.
func rets(n int) []api.Ins { return make([]api.Ins, n) }

// rising is so many thresholds.
func rising(n int) []int64 {
	list := make([]int64, n)
	for i := range list {
		list[i] = int64(i) - 3
	}
	return list
}

// named is so many functions, which may all be.
func named(n int) []api.Func {
	var list []api.Func
	for i := range n {
		list = append(list, fn(fmt.Sprint("f", i), 0, 1))
	}
	return list
}

// P9.4, 1: the thresholds.
func TestThresholds(t *testing.T) {
	many := api.Fault{E: api.ErrMany, At: 16}
	order := func(i int) api.Fault { return api.Fault{E: api.ErrOrder, At: i} }
	lastFalls := rising(16)
	lastFalls[15] = lastFalls[14]
	for _, c := range []struct {
		what string
		list []int64
		want api.Fault
	}{
		{"none", []int64{}, api.Fault{}},
		{"one", []int64{least}, api.Fault{}},
		{"two", []int64{least, most}, api.Fault{}},
		{"rising by one", []int64{-1, 0, 1}, api.Fault{}},
		{"16", rising(16), api.Fault{}},
		{"17", rising(17), many},
		{"17 the same", make([]int64, 17), many},
		{"17, the last of which fall", append(rising(16), 0), many},
		{"300", rising(300), many},
		{"the same twice", []int64{5, 5}, order(1)},
		{"the least twice", []int64{least, least}, order(1)},
		{"falling by one", []int64{5, 4}, order(1)},
		{"a fall whose difference is brought round", []int64{most, least}, order(1)},
		{"a fall in the middle", []int64{1, 3, 2, 4}, order(2)},
		{"the same twice behind others", []int64{1, 2, 3, 3}, order(3)},
		{"two falls", []int64{9, 8, 7}, order(1)},
		{"a fall and the same", []int64{1, 9, 8, 8}, order(2)},
		{"the last two", lastFalls, order(15)},
		{"a lesser one, not the one ahead", []int64{1, 5, 2, 6}, order(2)},
	} {
		fault(t, c.what, api.Module{Thresholds: c.list}, c.want)
		fault(t, c.what+", with functions", api.Module{Thresholds: c.list, Funcs: named(3)}, c.want)
		if c.want.E != api.OK {
			fault(t, c.what+", with too many functions", api.Module{Thresholds: c.list, Funcs: make([]api.Func, 33)}, c.want)
		}
	}
}

// P9.4, 2: how many functions there are.
func TestManyFuncs(t *testing.T) {
	many := api.Fault{E: api.ErrMany, Func: 32}
	fault(t, "nothing", api.Module{}, api.Fault{})
	fault(t, "empty lists", api.Module{Thresholds: []int64{}, Funcs: []api.Func{}}, api.Fault{})
	fault(t, "one", module(named(1)...), api.Fault{})
	fault(t, "32", module(named(32)...), api.Fault{})
	fault(t, "33", module(named(33)...), many)
	fault(t, "33 of zeros", module(make([]api.Func, 33)...), many)
	fault(t, "200", module(named(200)...), many)
	fault(t, "32 of zeros", module(make([]api.Func, 32)...), api.Fault{E: api.ErrName})
}

// head is what is done to a function, and what is wrong with it then.
type head struct {
	what string
	do   func(f *api.Func)
	e    api.Errno
	at   int
}

func headCases() []head {
	var all []head
	add := func(what string, e api.Errno, at int, do func(f *api.Func)) { all = append(all, head{what, do, e, at}) }
	for _, s := range []string{"a", "z", "z9", "m0", "a1b2c3", "fn", "for", "widen", "return", "if", "ret", "func", fullName, "a" + strings.Repeat("9", 15)} {
		add("the name "+s, api.OK, 0, func(f *api.Func) { f.Name = s })
	}
	for _, s := range []string{"", "0", "9a", "1", "A", "F", "aB", "a_b", "a-b", "a b", " a", "a ", "a\x00", "a\n", "ä", "aä", "\xff", "`", "{", "a`", "a{", "a/", "a:", "/", ":", "@", "[", fullName + "a", fullName + fullName, "a" + strings.Repeat("9", 16)} {
		add(fmt.Sprintf("the name %q", s), api.ErrName, 0, func(f *api.Func) { f.Name = s })
	}
	for _, n := range []int{0, 1, 7, 8} {
		add(fmt.Sprint(n, " parameters"), api.OK, 0, func(f *api.Func) { f.Params = make([]api.Span, n) })
	}
	for _, n := range []int{9, 10, 65, 1000} {
		add(fmt.Sprint(n, " parameters"), api.ErrMany, 8, func(f *api.Func) { f.Params = make([]api.Span, n) })
	}
	for _, p := range []api.Span{{Lo: 0, Hi: 0}, {Lo: least, Hi: most}, {Lo: most, Hi: most}, {Lo: least, Hi: least}, {Lo: -1, Hi: 1}} {
		add(fmt.Sprint("a parameter ", p), api.OK, 0, func(f *api.Func) { f.Params = []api.Span{p, {}, p} })
	}
	for _, p := range []api.Span{{Lo: 1, Hi: 0}, {Lo: 2, Hi: 1}, {Lo: most, Hi: least}, {Lo: least + 1, Hi: least}, {Lo: most, Hi: most - 1}} {
		for i := range 8 {
			add(fmt.Sprint("a parameter ", p, " at ", i), api.ErrEmpty, i, func(f *api.Func) {
				f.Params = make([]api.Span, 8)
				f.Params[i], f.Params[7] = p, p
			})
		}
	}
	for _, n := range []int{3, 4, 63, 64} {
		add(fmt.Sprint("Regs ", n), api.OK, 0, func(f *api.Func) { f.Regs = n })
	}
	for _, n := range []int{2, 1, 0, -1, 65, 66, 256 + 3, 1<<32 + 3, most, least, least + 3} {
		add(fmt.Sprint("Regs ", n), api.ErrRegs, 0, func(f *api.Func) { f.Regs = n })
	}
	for _, n := range []int{0, 1, 4095, 4096} {
		add(fmt.Sprint("Words ", n), api.OK, 0, func(f *api.Func) { f.Words = n })
	}
	for _, n := range []int{-1, 4097, 65536, 65536 + 7, 1 << 32, most, least} {
		add(fmt.Sprint("Words ", n), api.ErrWords, 0, func(f *api.Func) { f.Words = n })
	}
	for n, e := range map[int]api.Errno{0: api.ErrCode, 1: api.OK, 2: api.OK, 1023: api.OK, 1024: api.OK, 1025: api.ErrCode, 5000: api.ErrCode, 65536 + 1: api.ErrCode} {
		add(fmt.Sprint(n, " instructions"), e, 0, func(f *api.Func) { f.Code = rets(n) })
	}
	return all
}

// P9.4, 3: what is wrong with a function as a whole, of the first one, of a later one and of the last one, also where a function ahead of it has instructions that are wrong.
func TestHeads(t *testing.T) {
	for _, c := range headCases() {
		for number := range 3 {
			m := module(fn("b", 3, 9), fn("c", 3, 9), fn("d", 3, 9))
			c.do(&m.Funcs[number])
			want := api.Fault{}
			if c.e != api.OK {
				want = api.Fault{E: c.e, Func: number, At: c.at}
			}
			fault(t, c.what, m, want)
			if c.e == api.OK {
				continue
			}
			for other := range 3 {
				if other != number {
					m.Funcs[other].Code = []api.Ins{{Op: 20}, {Op: api.OpSet}}
				}
			}
			fault(t, c.what+", with instructions that are wrong", m, want)
		}
	}
}

// P9.4, 3: Regs may be no fewer than the parameters, and no fewer than 1.
func TestRegsOfParams(t *testing.T) {
	for params := range 9 {
		for regs := -1; regs < 12; regs++ {
			want := api.Fault{}
			if regs < 1 || regs < params {
				want.E = api.ErrRegs
			}
			fault(t, fmt.Sprint(params, " parameters, Regs ", regs), module(fn("f", params, regs)), want)
		}
	}
}

// P9.4, 3: a name that a function ahead has.
func TestTwice(t *testing.T) {
	twice := func(f int) api.Fault { return api.Fault{E: api.ErrTwice, Func: f} }
	of := func(names ...string) api.Module {
		var m api.Module
		for _, s := range names {
			m.Funcs = append(m.Funcs, fn(s, 0, 1))
		}
		return m
	}
	fault(t, "two", of("f", "f"), twice(1))
	fault(t, "the first and the last", of("f", "g", "h", "f"), twice(3))
	fault(t, "the last two", of("f", "g", "h", "h"), twice(3))
	fault(t, "two pairs", of("f", "g", "g", "f"), twice(2))
	fault(t, "three", of("f", "f", "f"), twice(1))
	fault(t, "the beginning of another one", of("f", "ff", "fff", "f0"), api.Fault{})
	fault(t, "long ones that end in other signs", of(fullName, fullName[1:]+"b", fullName[1:]), api.Fault{})
	fault(t, "long ones", of(fullName, "b", fullName), twice(2))
	fault(t, "two that are none", of("F", "F"), api.Fault{E: api.ErrName})
	fault(t, "two that are none behind one", of("f", "F", "F"), api.Fault{E: api.ErrName, Func: 1})
	all := named(32)
	all[31].Name = all[0].Name
	fault(t, "the last of 32", module(all...), twice(31))
	second := of("f", "f")
	second.Funcs[1].Regs = 0
	fault(t, "the second one with Regs 0", second, twice(1))
}

// put is a module whose function 1 of three has an instruction at 2 of four; the function 2 has two parameters.
func put(x api.Ins) api.Module {
	f := fn("f", 1, 5, ret, ret, x)
	return module(fn("e", 0, 1), f, fn("g", 2, 2))
}

// right is an instruction of an operation that may be there, with 0 in no field that it has; a call's argument may stand in any register.
func right(o operation) api.Ins {
	x := api.Ins{Op: o.op}
	for _, c := range o.fields {
		switch c {
		case 'A':
			x.A = 1
		case 'B':
			x.B = 2
		case 'C':
			x.C = 3
		case 'N':
			x.N = 1
		}
	}
	return x
}

// set puts a number into a field.
func set(x *api.Ins, field rune, n int64) {
	switch field {
	case 'A':
		x.A = int(n)
	case 'B':
		x.B = int(n)
	case 'C':
		x.C = int(n)
	case 'N':
		x.N = n
	}
}

// wrongOf is what is wrong with a number in a field of an instruction of put's, where the rest of it is right.
func wrongOf(o operation, field rune, n int64) api.Errno {
	within := func(least, most int64, e api.Errno) api.Errno {
		if n < least || n > most {
			return e
		}
		return api.OK
	}
	switch {
	case !strings.ContainsRune(o.fields, field):
		return within(0, 0, api.ErrUnused)
	case field != 'N':
		return within(0, 4, api.ErrReg)
	}
	switch o.word {
	case "jump", "if", "unless", "count", "step":
		return within(0, 3, api.ErrJump)
	case "check":
		return within(1, 4096, api.ErrRange)
	case "call":
		return within(0, 2, api.ErrCall)
	}
	return api.OK
}

func marked(e api.Errno) api.Fault {
	if e == api.OK {
		return api.Fault{}
	}
	return api.Fault{E: e, Func: 1, At: 2}
}

// P9.4, 4: every field of every operation, whether it has it or not, at the first and the last number that may be, beside these, and far off.
func TestFields(t *testing.T) {
	list := []int64{0, 1, 2, 3, 4, 5, 6, -1, -2, 64, 256, 1 << 32, 4095, 4096, 4097, 1024, most, least, least + 1}
	for _, o := range operations {
		fault(t, o.word, put(right(o)), api.Fault{})
		for _, field := range "ABCN" {
			for _, n := range list {
				x := right(o)
				set(&x, field, n)
				fault(t, fmt.Sprintf("%s with %c %d", o.word, field, n), put(x), marked(wrongOf(o, field, n)))
			}
		}
	}
}

// P9.4, 4: of any fields that are wrong the first one in the order A, B, C, N is told; and that there is no such operation ahead of them all.
func TestFieldOrder(t *testing.T) {
	for _, o := range operations {
		for which := range 16 {
			x, first := right(o), api.OK
			for i, field := range "ABCN" {
				if which&(1<<i) == 0 {
					continue
				}
				set(&x, field, -7)
				if e := wrongOf(o, field, -7); first == api.OK {
					first = e
				}
			}
			fault(t, fmt.Sprintf("%s, the fields %04b", o.word, which), put(x), marked(first))
			x.Op = 20
			fault(t, fmt.Sprintf("no operation, the fields %04b", which), put(x), marked(api.ErrOp))
		}
	}
}

// P9.4, 4: numbers that are no operation.
func TestOps(t *testing.T) {
	for _, op := range noOperations {
		fault(t, fmt.Sprint("the operation ", op), put(api.Ins{Op: op}), marked(api.ErrOp))
		fault(t, fmt.Sprint("the operation ", op, " with fields"), put(api.Ins{Op: op, A: -1, B: 9, C: 9, N: -1}), marked(api.ErrOp))
		fault(t, fmt.Sprint("the operation ", op, " last"), module(api.Func{Name: "f", Regs: 1, Code: []api.Ins{ret, {Op: op}}}), api.Fault{E: api.ErrOp, At: 1})
	}
}

// P9.4, 4: how many registers there are is the function's own number.
func TestRegs(t *testing.T) {
	for _, regs := range []int{1, 2, 63, 64} {
		for _, o := range operations {
			for _, field := range strings.TrimSuffix(o.fields, "N") {
				for n := regs - 2; n < regs+2; n++ {
					x := api.Ins{Op: o.op}
					if o.word == "check" {
						x.N = 1
					}
					set(&x, field, int64(n))
					want := api.Fault{}
					if n < 0 || n >= regs {
						want = api.Fault{E: api.ErrReg, Func: 1}
					}
					m := module(fn("e", 0, 64), fn("f", 0, regs, x), fn("g", 0, 1))
					fault(t, fmt.Sprintf("%s with %c %d of %d", o.word, field, n, regs), m, want)
				}
			}
		}
	}
}

// P9.4, 4: how many instructions there are is the function's own number.
func TestTargets(t *testing.T) {
	for _, size := range []int{1, 2, 3, 1023, 1024} {
		for _, op := range []int{api.OpJump, api.OpIf, api.OpUnless, api.OpCount, api.OpStep} {
			for _, n := range []int64{least, -1024, -1, 0, int64(size) - 1, int64(size), int64(size) + 1, 1<<32 + 1, most} {
				for _, at := range []int{0, size / 2, size - 1} {
					list := rets(size)
					list[at] = api.Ins{Op: op, N: n}
					want := api.Fault{}
					if n < 0 || n >= int64(size) {
						want = api.Fault{E: api.ErrJump, Func: 1, At: at}
					} else if at == size-1 && op != api.OpJump && op != api.OpStep {
						want = api.Fault{E: api.ErrFall, Func: 1, At: at}
					}
					m := module(api.Func{Name: "e", Regs: 1, Code: rets(500)}, api.Func{Name: "f", Regs: 1, Code: list})
					fault(t, fmt.Sprintf("the operation %d to %d at %d of %d", op, n, at, size), m, want)
				}
			}
		}
	}
}

// P9.4, 4: which functions may be called, and where there is room for the arguments.
func TestCallees(t *testing.T) {
	for _, funcs := range []int{1, 2, 31, 32} {
		for _, n := range []int64{least, -1, 0, int64(funcs) - 1, int64(funcs), int64(funcs) + 1, 32, 256, 1 << 32, most} {
			m := module(named(funcs)...)
			m.Funcs[0].Code = []api.Ins{ret, {Op: api.OpCall, N: n}, ret}
			want := api.Fault{}
			if n < 0 || n >= int64(funcs) {
				want = api.Fault{E: api.ErrCall, At: 1}
			}
			fault(t, fmt.Sprint("a call of ", n, " of ", funcs), m, want)
		}
	}
	for params := range 9 {
		for _, regs := range []int{1, 2, 8, 9, 10, 64} {
			for b := range regs {
				m := module(fn("f", 0, regs, api.Ins{Op: api.OpCall, B: b, N: 1}), fn("g", params, 64), fn("h", 8, 64))
				want := api.Fault{}
				if b+params > regs {
					want.E = api.ErrCall
				}
				fault(t, fmt.Sprint("a call with ", params, " arguments from ", b, " on of ", regs), m, want)
			}
		}
	}
	fault(t, "one that calls itself", module(fn("f", 2, 3, api.Ins{Op: api.OpCall, A: 2, B: 1})), api.Fault{})
	fault(t, "one that calls itself without room", module(fn("f", 2, 3, api.Ins{Op: api.OpCall, A: 2, B: 2})), api.Fault{E: api.ErrCall})
	fault(t, "two that call one another", module(fn("f", 0, 1, api.Ins{Op: api.OpCall, N: 1}), fn("g", 0, 1, api.Ins{Op: api.OpCall, N: 0})), api.Fault{})
}

// P9.4, 4: N of set, load and store may be any number; that of check from 1 to MaxWords, whatever Words are.
func TestNumbers(t *testing.T) {
	for _, n := range []int64{least, least + 1, -4097, -1, 0, 1, 2, 4095, 4096, 4097, 1 << 32, most} {
		for _, words := range []int{0, 3, 4096} {
			for _, op := range []int{api.OpSet, api.OpLoad, api.OpStore} {
				m := put(api.Ins{Op: op, N: n})
				m.Funcs[1].Words = words
				fault(t, fmt.Sprint("the operation ", op, " with ", n), m, api.Fault{})
			}
			m := put(api.Ins{Op: api.OpCheck, N: n})
			m.Funcs[1].Words = words
			e := api.OK
			if n < 1 || n > 4096 {
				e = api.ErrRange
			}
			fault(t, fmt.Sprint("a check of ", n), m, marked(e))
		}
	}
}

// P9.4, 4: the last instruction of each kind; the same one ahead of a ret may be.
func TestFall(t *testing.T) {
	for _, o := range operations {
		x := api.Ins{Op: o.op}
		if o.word == "check" {
			x.N = 1
		}
		last := func(list ...api.Ins) api.Module {
			return module(fn("e", 0, 1), api.Func{Name: "f", Regs: 1, Code: list}, fn("g", 0, 1))
		}
		for ahead := range 4 {
			want := api.Fault{E: api.ErrFall, Func: 1, At: ahead}
			if slices.Contains([]string{"ret", "jump", "step"}, o.word) {
				want = api.Fault{}
			}
			fault(t, o.word+" last", last(append(rets(ahead), x)...), want)
			fault(t, o.word+" ahead of a ret", last(append(rets(ahead), x, ret)...), api.Fault{})
		}
		m := last(ret, x)
		m.Funcs[2].Code[0].Op = 20
		want := api.Fault{E: api.ErrFall, Func: 1, At: 1}
		if slices.Contains([]string{"ret", "jump", "step"}, o.word) {
			want = api.Fault{E: api.ErrOp, Func: 2}
		}
		fault(t, o.word+" last, ahead of a function that is wrong", m, want)
		m = last(ret, x)
		m.Funcs[1].Code[0].C = 1
		fault(t, o.word+" last, behind an instruction that is wrong", m, api.Fault{E: api.ErrUnused, Func: 1})
	}
	full := rets(1024)
	full[1023] = api.Ins{Op: api.OpSet}
	fault(t, "the last of 1024", module(api.Func{Name: "f", Regs: 1, Code: full}), api.Fault{E: api.ErrFall, At: 1023})
}
