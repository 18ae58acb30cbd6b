package bounds_test

import (
	"math/rand/v2"
	"slices"
	"testing"

	"soffit/api"
)

// maker makes modules that may be, at random.
type maker struct{ *rand.Rand }

func newMaker(seed uint64) maker { return maker{rand.New(rand.NewPCG(16, seed))} }

// value is a small number most of the time, else one at or near an end, or any.
func (k maker) value() int64 {
	switch k.IntN(12) {
	case 0:
		return []int64{least, least + 1, most, most - 1}[k.IntN(4)]
	case 1:
		return int64(k.Uint64())
	case 2:
		return []int64{1 << 31, 1 << 32, -1 << 32, 1 << 62, 100, -100}[k.IntN(6)]
	}
	return int64(k.IntN(12) - 4)
}

// span has a number at least.
func (k maker) span() api.Span {
	a, b := k.value(), k.value()
	switch k.IntN(6) {
	case 0:
		b = a
	case 1:
		a = 0
	case 2:
		return s(0, int64(k.IntN(20)))
	}
	return s(min(a, b), max(a, b))
}

// in is a number of a span, one of its ends more often.
func (k maker) in(a api.Span) int64 {
	switch v := a.Lo + int64(k.Uint64()%16); {
	case k.IntN(3) == 0:
		return a.Lo
	case k.IntN(3) == 0:
		return a.Hi
	case a.Lo <= v && v <= a.Hi:
		return v
	}
	return a.Lo + int64(k.Uint64()%max(1, uint64(a.Hi)-uint64(a.Lo)))
}

// thresholds are none most of the time, else up to as many as may be.
func (k maker) thresholds() []int64 {
	var list []int64
	for range k.IntN([]int{1, 1, 4, 17}[k.IntN(4)]) {
		list = append(list, k.value()*int64(1+k.IntN(3)))
	}
	slices.Sort(list)
	return slices.Compact(list)
}

// module is one of few functions, without code.
func (k maker) module() api.Module {
	m := api.Module{Thresholds: k.thresholds()}
	for i := range 1 + k.IntN(3) {
		f := api.Func{Name: string(rune('f' + i)), Regs: 1 + k.IntN([]int{2, 4, 6}[k.IntN(3)]), Words: k.IntN(4)}
		for range k.IntN(min(4, f.Regs) + 1) {
			f.Params = append(f.Params, k.span())
		}
		m.Funcs = append(m.Funcs, f)
	}
	return m
}

// instruction is one that may stand at a place of a function.
func (k maker) instruction(m api.Module, f api.Func, length int, last bool) api.Ins {
	a, b, c := k.IntN(f.Regs), k.IntN(f.Regs), k.IntN(f.Regs)
	to := int64(k.IntN(length))
	if last {
		return []api.Ins{{Op: api.OpRet, A: a}, {Op: api.OpJump, N: to}, {Op: api.OpStep, A: a, N: to}}[k.IntN(3)]
	}
	switch op := k.IntN(26); op {
	case api.OpRet:
		if k.IntN(4) == 0 {
			return api.Ins{A: a}
		}
	case api.OpSet:
		return api.Ins{Op: op, A: a, N: k.value()}
	case api.OpMove, api.OpNot:
		return api.Ins{Op: op, A: a, B: b}
	case api.OpAdd, api.OpSub, api.OpMul, api.OpDiv, api.OpRem, api.OpLess, api.OpEqual:
		return api.Ins{Op: op, A: a, B: b, C: c}
	case api.OpLoad, api.OpStore:
		return api.Ins{Op: op, A: a, B: b, N: k.value()}
	case api.OpCheck:
		return api.Ins{Op: op, A: a, N: []int64{1, 2, 5, 9, 4096}[k.IntN(5)]}
	case api.OpJump:
		return api.Ins{Op: op, N: to}
	case api.OpIf, api.OpUnless, api.OpStep:
		return api.Ins{Op: op, A: a, N: to}
	case api.OpCount, 20, 21:
		return api.Ins{Op: api.OpCount, A: a, B: b, N: to}
	case 22:
		return api.Ins{Op: []int{api.OpIf, api.OpUnless}[k.IntN(2)], A: a, N: to}
	case api.OpCall:
		fn := k.IntN(len(m.Funcs))
		if params := len(m.Funcs[fn].Params); params <= f.Regs {
			return api.Ins{Op: op, A: a, B: k.IntN(min(f.Regs-params+1, f.Regs)), N: int64(fn)}
		}
	}
	return api.Ins{Op: []int{api.OpAdd, api.OpSub}[k.IntN(2)], A: a, B: b, C: c}
}

// wild is a module whose code is any that may be.
func (k maker) wild() api.Module {
	m := k.module()
	for fn := range m.Funcs {
		length := 1 + k.IntN([]int{3, 6, 10, 16}[k.IntN(4)])
		for at := range length {
			m.Funcs[fn].Code = append(m.Funcs[fn].Code, k.instruction(m, m.Funcs[fn], length, at == length-1))
		}
	}
	return m
}

// counting is a module whose functions have loops that count, within one another and behind one another.
func (k maker) counting() api.Module {
	m := k.module()
	for fn := range m.Funcs {
		f := &m.Funcs[fn]
		f.Regs += 3
		for len(f.Params) < 2 {
			f.Params = append(f.Params, s(int64(-k.IntN(2)), int64(k.IntN(20))))
		}
	}
	for fn := range m.Funcs {
		f := &m.Funcs[fn]
		k.block(m, f, 3)
		f.Code = append(f.Code, api.Ins{Op: api.OpRet, A: k.IntN(f.Regs)})
	}
	return m
}

// block adds some parts of a program's code: loops, branches, or what goes straight on.
func (k maker) block(m api.Module, f *api.Func, depth int) {
	for range 1 + k.IntN(3) {
		at := len(f.Code)
		switch n := k.IntN(5); {
		case depth > 0 && n < 2:
			// The bound is a parameter more often, and the count is none.
			a, b := len(f.Params)+k.IntN(f.Regs-len(f.Params)), k.IntN([]int{f.Regs, len(f.Params)}[k.IntN(2)])
			f.Code = append(f.Code, api.Ins{Op: api.OpSet, A: a, N: int64(k.IntN(3))}, api.Ins{Op: api.OpCount, A: a, B: b})
			k.block(m, f, depth-1)
			f.Code = append(f.Code, api.Ins{Op: api.OpStep, A: a, N: int64(at + 1)})
			f.Code[at+1].N = int64(len(f.Code))
		case depth > 0 && n == 2:
			f.Code = append(f.Code, api.Ins{Op: []int{api.OpIf, api.OpUnless}[k.IntN(2)], A: k.IntN(f.Regs)})
			k.block(m, f, depth-1)
			f.Code[at].N = int64(len(f.Code))
		default:
			x := k.instruction(m, *f, 1, false)
			// What leads elsewhere stands in the other parts alone, and what may end a run is seldom.
			if x.Op == api.OpRet || x.Op >= api.OpJump && x.Op <= api.OpStep || (x.Op == api.OpLoad || x.Op == api.OpStore || x.Op == api.OpCall) && k.IntN(6) > 0 {
				x = api.Ins{Op: api.OpMove, A: k.IntN(f.Regs), B: k.IntN(f.Regs)}
			}
			f.Code = append(f.Code, x)
		}
	}
}

// tally is how many analyses of a test had something.
type tally struct{ functions, nothing, joined, widened, full, steps int }

func (y *tally) count(m api.Module, a api.Analysis) {
	y.functions++
	most := 0
	for at, changes := range a.Changes {
		most = max(most, slices.Max(changes))
		if len(a.In[at]) == 0 {
			y.nothing++
		}
	}
	if most >= 4 {
		y.joined++
	}
	if most > 4 {
		y.widened++
	}
	if most == 6+len(m.Thresholds) {
		y.full++
	}
}

// held holds a module to all, with some runs by hand.
func (k maker) held(t *testing.T, m api.Module, y *tally) {
	t.Helper()
	both(t, m)
	for fn := range m.Funcs {
		y.count(m, done(t, "held", m, fn))
		y.steps += runs(t, k, m, fn, 10)
	}
}

// P16.1 to P16.3: any modules at random that may be.
func TestRandom(t *testing.T) {
	k := newMaker(1)
	var y tally
	for range 12000 {
		k.held(t, k.wild(), &y)
	}
	if y.nothing < 5000 || y.joined < 2000 || y.widened < 1500 || y.full < 300 || y.steps < 500000 {
		t.Errorf("the test's own modules: %+v", y)
	}
}

// P16.1 to P16.3: modules at random whose loops count.
func TestRandomCounting(t *testing.T) {
	k := newMaker(2)
	var y tally
	for range 2000 {
		k.held(t, k.counting(), &y)
	}
	if y.nothing < 500 || y.joined < 900 || y.widened < 600 || y.full < 100 || y.steps < 100000 {
		t.Errorf("the test's own modules: %+v", y)
	}
}

// P16.1: edges of modules at random, with spans of all kinds, also such as are none.
func TestRandomEdges(t *testing.T) {
	k := newMaker(3)
	gone, not := 0, 0
	for range 40000 {
		m := k.wild()
		fn := k.IntN(len(m.Funcs))
		f := m.Funcs[fn]
		in := make([]api.Span, f.Regs)
		for i := range in {
			in[i] = k.span()
			if k.IntN(60) == 0 {
				in[i] = s(in[i].Hi, in[i].Lo)
			}
		}
		if k.IntN(60) == 0 {
			in = append(in, n(0))
		}
		from := k.IntN(len(f.Code)+2) - 1
		for to := -1; to <= len(f.Code); to++ {
			switch {
			case againstEdge(t, m, fn, from, to, in):
				gone++
			case leads(f, from, to):
				not++
			}
		}
	}
	if gone < 20000 || not < 2000 {
		t.Errorf("the test's own edges: %d, %d", gone, not)
	}
}

// every goes through all rows of some numbers below another one.
func every(below int, row []int, at int, do func()) {
	if at == len(row) {
		do()
		return
	}
	for n := range below {
		row[at] = n
		every(below, row, at+1, do)
	}
}

// shortCodes are all of so many instructions of a list, of which the last one may stand at the end.
func shortCodes(list []api.Ins, length int, do func([]api.Ins)) {
	row, ins := make([]int, length), make([]api.Ins, length)
	every(len(list), row, 0, func() {
		for at, i := range row {
			ins[at] = list[i]
		}
		if slices.Contains([]int{api.OpRet, api.OpJump, api.OpStep}, ins[length-1].Op) {
			do(ins)
		}
	})
}

// branching are the instructions with a target, of two registers, each with all targets below a length.
func branching(length int) []api.Ins {
	var list []api.Ins
	for to := range int64(length) {
		list = append(list, api.Ins{Op: api.OpJump, N: to}, api.Ins{Op: api.OpStep, A: 0, N: to}, api.Ins{Op: api.OpStep, A: 1, N: to}, api.Ins{Op: api.OpIf, A: 0, N: to}, api.Ins{Op: api.OpUnless, A: 1, N: to}, api.Ins{Op: api.OpCount, A: 1, B: 0, N: to}, api.Ins{Op: api.OpCount, A: 0, B: 1, N: to})
	}
	return list
}

// P16.2, P16.3: all short codes of some instructions, up to three and of four.
func TestEveryShort(t *testing.T) {
	k := newMaker(4)
	m := text("func f 2 3 -1 5", "ret 0")
	plain := []api.Ins{{}, {Op: api.OpSet, A: 1, N: 7}, {Op: api.OpAdd, A: 1, B: 1, C: 0}, {Op: api.OpSub, A: 0, B: 1, C: 0}, {Op: api.OpNot, A: 1, B: 0}, {Op: api.OpCheck, A: 1, N: 4}, {Op: api.OpStore, A: 0, B: 1, N: 1}, {Op: api.OpLoad, A: 1, B: 0}}
	codes := 0
	held := func(ins []api.Ins) {
		codes++
		m.Funcs[0].Code = ins
		m.Thresholds = [][]int64{nil, {3}, {-2, 6}}[codes%3]
		both(t, m)
		runs(t, k, m, 0, 2)
	}
	for length := 1; length <= 3; length++ {
		shortCodes(slices.Concat(plain, branching(length)), length, held)
	}
	few := []api.Ins{{Op: api.OpAdd, A: 1, B: 1, C: 0}, {}}
	for to := range int64(4) {
		few = append(few, api.Ins{Op: api.OpStep, A: 1, N: to}, api.Ins{Op: api.OpCount, A: 1, B: 0, N: to}, api.Ins{Op: api.OpIf, A: 1, N: to})
	}
	shortCodes(few, 4, held)
	if codes < 20000 {
		t.Errorf("%d codes", codes)
	}
}

// read makes a module that may be of bytes: a few of its own, and then some for each instruction.
func read(b []byte) api.Module {
	next := func() int {
		if len(b) == 0 {
			return 0
		}
		n := int(b[0])
		b = b[1:]
		return n
	}
	number := func() int64 {
		n := next()
		switch {
		case n == 128:
			return least
		case n == 127:
			return most
		}
		return int64(int8(n))
	}
	m := api.Module{}
	for range next() % 4 {
		m.Thresholds = append(m.Thresholds, number())
	}
	slices.Sort(m.Thresholds)
	m.Thresholds = slices.Compact(m.Thresholds)
	f := api.Func{Name: "f", Regs: 1 + next()%5, Words: next() % 4}
	for range min(next()%3, f.Regs) {
		x, y := number(), number()
		f.Params = append(f.Params, s(min(x, y), max(x, y)))
	}
	length := min(40, 1+len(b)/4)
	register := func() int { return next() % f.Regs }
	for range length - 1 {
		x := api.Ins{Op: next() % 20}
		switch x.Op {
		case api.OpSet, api.OpCheck:
			x.A, x.N = register(), number()
			if x.Op == api.OpCheck {
				x.N = 1 + x.N&31
			}
		case api.OpLoad, api.OpStore:
			x.A, x.B, x.N = register(), register(), number()
		case api.OpJump:
			x.N = int64(next() % length)
		case api.OpIf, api.OpUnless, api.OpStep:
			x.A, x.N = register(), int64(next()%length)
		case api.OpCount:
			x.A, x.B, x.N = register(), register(), int64(next()%length)
		case api.OpCall:
			x.A, x.B = register(), next()%(f.Regs-len(f.Params)+1)
			x.B = min(x.B, f.Regs-1)
		case api.OpMove, api.OpNot:
			x.A, x.B = register(), register()
		case api.OpRet:
			x.A = register()
		default:
			x.A, x.B, x.C = register(), register(), register()
		}
		f.Code = append(f.Code, x)
	}
	f.Code = append(f.Code, api.Ins{Op: api.OpRet})
	m.Funcs = []api.Func{f}
	return m
}

func FuzzAgainstModel(f *testing.F) {
	f.Add([]byte{})
	f.Add([]byte{1, 8, 1, 0, 1, 253, 9, 17, 1, 0, 2, 18, 1, 0, 0, 0})
	f.Add([]byte{2, 4, 9, 2, 3, 1, 0, 9, 1, 1, 0, 17, 1, 0, 5, 3, 2, 2, 1, 18, 1, 1, 0, 2, 0, 0, 0})
	f.Add([]byte{0, 2, 3, 1, 128, 127, 6, 0, 1, 2, 11, 0, 1, 255, 15, 0, 1, 19, 1, 1, 0, 0})
	f.Fuzz(func(t *testing.T, b []byte) {
		m := read(b)
		both(t, m)
		runs(t, newMaker(uint64(len(b))), m, 0, 3)
	})
}
