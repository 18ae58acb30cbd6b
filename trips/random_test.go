package trips_test

import (
	"math/rand/v2"
	"slices"
	"testing"

	"soffit/api"
)

// maker makes modules that may be, at random.
type maker struct{ *rand.Rand }

func newMaker(seed uint64) maker { return maker{rand.New(rand.NewPCG(17, seed))} }

// value is a small number most of the time, else one at or near an end, or any.
func (k maker) value() int64 {
	switch k.IntN(12) {
	case 0:
		return []int64{least, least + 1, most, most - 1}[k.IntN(4)]
	case 1:
		return int64(k.Uint64())
	case 2:
		return []int64{1 << 31, 1 << 32, -1 << 32, 1 << 62, 100, -100}[k.IntN(6)]
	}
	return int64(k.IntN(12) - 4)
}

// span has a number at least.
func (k maker) span() api.Span {
	a, b := k.value(), k.value()
	switch k.IntN(5) {
	case 0:
		b = a
	case 1:
		a = 0
	case 2, 3:
		return s(int64(k.IntN(7)-3), int64(4+k.IntN(9)))
	}
	return s(min(a, b), max(a, b))
}

// in is a number of a span, one of its ends more often.
func (k maker) in(a api.Span) int64 {
	switch v := a.Lo + int64(k.Uint64()%16); {
	case k.IntN(3) == 0:
		return a.Lo
	case k.IntN(2) == 0:
		return a.Hi
	case a.Lo <= v && v <= a.Hi:
		return v
	}
	return a.Lo + int64(k.Uint64()%max(1, uint64(a.Hi)-uint64(a.Lo)))
}

// thresholds are none most of the time, else up to as many as may be.
func (k maker) thresholds() []int64 {
	var list []int64
	for range k.IntN([]int{1, 1, 4, 17}[k.IntN(4)]) {
		list = append(list, k.value()*int64(1+k.IntN(3)))
	}
	slices.Sort(list)
	return slices.Compact(list)
}

// module is one of few functions, without code.
func (k maker) module() api.Module {
	m := api.Module{Thresholds: k.thresholds()}
	for i := range 1 + k.IntN(3) {
		f := api.Func{Name: string(rune('f' + i)), Regs: 2 + k.IntN([]int{1, 3, 5}[k.IntN(3)]), Words: k.IntN(4)}
		for range k.IntN(min(4, f.Regs) + 1) {
			f.Params = append(f.Params, k.span())
		}
		m.Funcs = append(m.Funcs, f)
	}
	return m
}

// plain is an instruction that leads to the next one.
func (k maker) plain(m api.Module, f api.Func) api.Ins {
	a, b, c := k.IntN(f.Regs), k.IntN(f.Regs), k.IntN(f.Regs)
	switch op := 1 + k.IntN(13); op {
	case api.OpSet:
		return api.Ins{Op: op, A: a, N: k.value()}
	case api.OpMove, api.OpNot:
		return api.Ins{Op: op, A: a, B: b}
	case api.OpLoad, api.OpStore:
		return api.Ins{Op: op, A: a, B: b, N: int64(k.IntN(5) - 2)}
	case api.OpCheck:
		return api.Ins{Op: op, A: a, N: []int64{1, 2, 5, 9, 4096}[k.IntN(5)]}
	default:
		if fn := k.IntN(len(m.Funcs)); op == api.OpAdd && len(m.Funcs[fn].Params) <= f.Regs && k.IntN(2) == 0 {
			return api.Ins{Op: api.OpCall, A: a, B: k.IntN(min(f.Regs-len(m.Funcs[fn].Params)+1, f.Regs)), N: int64(fn)}
		}
		return api.Ins{Op: op, A: a, B: b, C: c}
	}
}

// wild is a module whose code is any that may be, with steps and counts more often.
func (k maker) wild() api.Module {
	m := k.module()
	for fn := range m.Funcs {
		f := &m.Funcs[fn]
		length := 2 + k.IntN([]int{3, 6, 10, 16}[k.IntN(4)])
		// Many of the steps go back to the last count, so that some of the loops do count.
		head := 0
		for at := range length {
			x := k.plain(m, *f)
			to := int64(k.IntN(length))
			if k.IntN(2) == 0 {
				to = int64(head)
			}
			switch n := k.IntN(16); {
			case n < 3 || at == length-1 && n < 4:
				x = api.Ins{Op: api.OpStep, A: k.IntN(2), N: to}
			case n == 3 || at == length-1 && n < 6:
				x = api.Ins{Op: api.OpJump, N: to}
			case n == 4 || at == length-1:
				x = api.Ins{A: k.IntN(f.Regs)}
			case n < 7:
				x = api.Ins{Op: []int{api.OpIf, api.OpUnless}[k.IntN(2)], A: k.IntN(f.Regs), N: to}
			case n < 9:
				x = api.Ins{Op: api.OpCount, A: k.IntN(2), B: k.IntN(f.Regs), N: int64(length - 1)}
				head = at
			}
			f.Code = append(f.Code, x)
		}
	}
	return m
}

// writer writes code whose loops count.
type writer struct {
	maker
	m api.Module
	f *api.Func
	// busy are the registers that the loops around count by.
	busy []int
}

func (w *writer) put(x api.Ins) int {
	w.f.Code = append(w.f.Code, x)
	return len(w.f.Code) - 1
}

// act puts an instruction that writes no register of a loop around, and seldom one that may end a run.
func (w *writer) act() {
	for {
		x := w.plain(w.m, *w.f)
		ends := slices.Contains([]int{api.OpDiv, api.OpRem, api.OpLoad, api.OpStore, api.OpCheck, api.OpCall}, x.Op)
		if (!ends || w.IntN(8) == 0) && (x.Op == api.OpStore || x.Op == api.OpCheck || !slices.Contains(w.busy, x.A)) {
			w.put(x)
			return
		}
	}
}

// branch puts an if or an unless whose target is still to be told.
func (w *writer) branch() int {
	return w.put(api.Ins{Op: []int{api.OpIf, api.OpUnless}[w.IntN(2)], A: w.IntN(w.f.Regs)})
}

func (w *writer) here(places []int) {
	for _, at := range places {
		w.f.Code[at].N = int64(len(w.f.Code))
	}
}

// free is a register that no loop around counts by, or -1.
func (w *writer) free() int {
	for range 20 {
		if a := w.IntN(w.f.Regs); !slices.Contains(w.busy, a) {
			return a
		}
	}
	return -1
}

// loop puts a loop: several ways into it, perhaps several ways back and out of its middle.
func (w *writer) loop(depth int) {
	a, b := w.free(), w.IntN(w.f.Regs)
	if a < 0 || a == b {
		return
	}
	if w.IntN(2) == 0 && !slices.Contains(w.busy, b) {
		w.put(api.Ins{Op: api.OpSet, A: b, N: int64(w.IntN(6))})
	}
	var early, out []int
	for range w.IntN(4) {
		if early = append(early, w.branch()); w.IntN(2) == 0 {
			w.put(api.Ins{Op: api.OpSet, A: a, N: int64(w.IntN(9) - 4)})
		}
		if w.IntN(2) == 0 {
			w.act()
		}
	}
	w.here(early)
	head := w.put(api.Ins{Op: api.OpCount, A: a, B: b})
	w.busy = append(w.busy, a, b)
	w.block(depth - 1)
	if w.IntN(4) == 0 {
		skip := w.branch()
		w.put(api.Ins{Op: api.OpStep, A: a, N: int64(head)})
		w.here([]int{skip})
	}
	if w.IntN(4) == 0 {
		out = append(out, w.branch())
		w.act()
	}
	w.put(api.Ins{Op: api.OpStep, A: a, N: int64(head)})
	w.busy = w.busy[:len(w.busy)-2]
	w.here(append(out, head))
}

// block puts some loops, branches, and what goes straight on.
func (w *writer) block(depth int) {
	for range 1 + w.IntN(3) {
		switch n := w.IntN(6); {
		case depth > 0 && n < 3:
			w.loop(depth)
		case depth > 0 && n == 3:
			skip := w.branch()
			w.block(depth - 1)
			w.here([]int{skip})
		case n == 5:
			if a := w.free(); a >= 0 {
				w.put(api.Ins{Op: api.OpSet, A: a, N: int64(w.IntN(14) - 4)})
			}
		default:
			w.act()
		}
	}
}

// counting is a module whose functions have loops that count.
func (k maker) counting() api.Module {
	m := k.module()
	for fn := range m.Funcs {
		m.Funcs[fn].Regs += 4
	}
	for fn := range m.Funcs {
		w := &writer{maker: k, m: m, f: &m.Funcs[fn]}
		w.block(3)
		w.put(api.Ins{A: k.IntN(w.f.Regs)})
	}
	return m
}

// mixed is the same module, with each function's instructions but the first one in any order, a jump behind each of them.
func (k maker) mixed(m api.Module) api.Module {
	funcs := slices.Clone(m.Funcs)
	for fn, f := range funcs {
		places := k.Perm(len(f.Code))
		first := slices.Index(places, 0)
		places[0], places[first] = places[first], places[0]
		out := make([]api.Ins, 2*len(f.Code))
		for at, x := range f.Code {
			if slices.Contains([]int{api.OpJump, api.OpStep, api.OpIf, api.OpUnless, api.OpCount}, x.Op) {
				x.N = int64(2 * places[x.N])
			}
			next := api.Ins{}
			if at+1 < len(f.Code) {
				next = api.Ins{Op: api.OpJump, N: int64(2 * places[at+1])}
			}
			out[2*places[at]], out[2*places[at]+1] = x, next
		}
		funcs[fn].Code = out
	}
	return api.Module{Thresholds: m.Thresholds, Funcs: funcs}
}

// spoiled is the same module, with a few instructions that are others.
func (k maker) spoiled(m api.Module) api.Module {
	m = copied(m)
	for fn := range m.Funcs {
		f := m.Funcs[fn]
		for range 1 + k.IntN(2) {
			x := &f.Code[k.IntN(len(f.Code))]
			switch to := int64(k.IntN(len(f.Code))); {
			case x.Op == api.OpRet:
			case slices.Contains([]int{api.OpJump, api.OpStep, api.OpIf, api.OpUnless, api.OpCount}, x.Op):
				x.N = to
			case k.IntN(2) == 0:
				*x = api.Ins{Op: api.OpIf, A: x.A, N: to}
			default:
				*x = k.plain(m, f)
			}
		}
	}
	return m
}

// held holds a module to all, with some runs by hand.
func (y *tally) held(t *testing.T, k maker, m api.Module, times int) {
	t.Helper()
	against(t, m)
	for fn := range m.Funcs {
		y.runs(t, k, m, fn, times)
	}
}

// P17.1, P17.2: any modules at random that may be.
func TestRandom(t *testing.T) {
	k := newMaker(1)
	var y tally
	for range 20000 {
		y.held(t, k, k.wild(), 10)
	}
	if y.uncounted < 20000 || y.loops < 150 || y.none < 80 || y.full < 100 {
		t.Errorf("the test's own modules: %+v", y)
	}
}

// P17.1, P17.2: modules at random whose loops count, in rows and mixed.
func TestRandomCounting(t *testing.T) {
	k := newMaker(2)
	var y tally
	for range 1000 {
		m := k.counting()
		y.held(t, k, m, 20)
		y.held(t, k, k.mixed(m), 5)
	}
	if y.uncounted > 0 || y.loops < 8000 || y.several < 2000 || y.none < 4000 || y.none > y.loops*3/4 || y.endless < 300 || y.entered < 80000 || y.rounds < 100000 || y.full < 15000 {
		t.Errorf("the test's own modules: %+v", y)
	}
}

// P17.1, P17.2: such modules of which a few instructions are others, so that some loops do not count, or are others.
func TestRandomSpoiled(t *testing.T) {
	k := newMaker(3)
	var y tally
	for range 2000 {
		y.held(t, k, k.spoiled(k.counting()), 10)
	}
	if y.uncounted < 1500 || y.loops < 2000 || y.several < 400 || y.full < 2500 {
		t.Errorf("the test's own modules: %+v", y)
	}
}

// every goes through all rows of some numbers below another one.
func every(below int, row []int, at int, do func()) {
	if at == len(row) {
		do()
		return
	}
	for n := range below {
		row[at] = n
		every(below, row, at+1, do)
	}
}

// shortCodes are all of so many instructions of a list, of which the last one may stand at the end.
func shortCodes(list []api.Ins, length int, do func([]api.Ins)) {
	row, ins := make([]int, length), make([]api.Ins, length)
	every(len(list), row, 0, func() {
		for at, i := range row {
			ins[at] = list[i]
		}
		if slices.Contains([]int{api.OpRet, api.OpJump, api.OpStep}, ins[length-1].Op) {
			do(ins)
		}
	})
}

// branching are the instructions with a target, of two registers, each with all targets below a length.
func branching(length int) []api.Ins {
	var list []api.Ins
	for to := range length {
		n := int64(to)
		list = append(list, api.Ins{Op: api.OpJump, N: n}, step(0, to), step(1, to), api.Ins{Op: api.OpIf, A: 0, N: n}, api.Ins{Op: api.OpUnless, A: 1, N: n}, count(1, 0, to), count(0, 1, to), count(1, 1, to))
	}
	return list
}

// P17.1, P17.2: all short codes, of one to four instructions.
func TestEveryShort(t *testing.T) {
	k := newMaker(4)
	m := text("func f 2 3 -1 5", "ret 0")
	plain := []api.Ins{{}, {Op: api.OpSet, A: 1, N: 7}, {Op: api.OpAdd, A: 1, B: 1, C: 0}, {Op: api.OpNot, A: 1, B: 0}, {Op: api.OpCheck, A: 0, N: 4}, {Op: api.OpLoad, A: 1, B: 0}}
	codes := 0
	var y tally
	held := func(ins []api.Ins) {
		codes++
		m.Funcs[0].Code = ins
		m.Thresholds = [][]int64{nil, {3}, {-2, 6}}[codes%3]
		y.held(t, k, m, 2)
	}
	for length := 1; length <= 3; length++ {
		shortCodes(slices.Concat(plain, branching(length)), length, held)
	}
	few := []api.Ins{{}, {Op: api.OpSet, A: 1, N: -2}, {Op: api.OpCheck, A: 0, N: 4}}
	for to := range 4 {
		few = append(few, step(1, to), count(1, 0, to), api.Ins{Op: api.OpIf, A: 0, N: int64(to)})
	}
	shortCodes(few, 4, held)
	few = []api.Ins{{}, {Op: api.OpCheck, A: 0, N: 4}, {Op: api.OpSet, A: 1, N: -2}, step(1, 0), step(1, 1), step(1, 2), count(1, 0, 3), count(1, 0, 4), {Op: api.OpIf, A: 0, N: 1}, {Op: api.OpIf, A: 0, N: 2}, {Op: api.OpIf, A: 0, N: 4}}
	shortCodes(few, 5, held)
	if codes < 80000 || y.loops < 500 || y.full < 200 {
		t.Errorf("the test's own codes: %d, %+v", codes, y)
	}
}

// read makes a module that may be of bytes: a few of its own, and then some for each instruction.
func read(b []byte) api.Module {
	next := func() int {
		if len(b) == 0 {
			return 0
		}
		n := int(b[0])
		b = b[1:]
		return n
	}
	number := func() int64 {
		n := next()
		switch {
		case n == 128:
			return least
		case n == 127:
			return most
		}
		return int64(int8(n))
	}
	m := api.Module{}
	for range next() % 4 {
		m.Thresholds = append(m.Thresholds, number())
	}
	slices.Sort(m.Thresholds)
	m.Thresholds = slices.Compact(m.Thresholds)
	f := api.Func{Name: "f", Regs: 1 + next()%5, Words: next() % 4}
	for range min(next()%3, f.Regs) {
		x, y := number(), number()
		f.Params = append(f.Params, s(min(x, y), max(x, y)))
	}
	length := min(40, 1+len(b)/4)
	register := func() int { return next() % f.Regs }
	for range length - 1 {
		x := api.Ins{Op: next() % 20}
		switch x.Op {
		case api.OpSet, api.OpCheck:
			x.A, x.N = register(), number()
			if x.Op == api.OpCheck {
				x.N = 1 + x.N&31
			}
		case api.OpLoad, api.OpStore:
			x.A, x.B, x.N = register(), register(), number()
		case api.OpJump:
			x.N = int64(next() % length)
		case api.OpIf, api.OpUnless, api.OpStep:
			x.A, x.N = register(), int64(next()%length)
		case api.OpCount:
			x.A, x.B, x.N = register(), register(), int64(next()%length)
		case api.OpCall:
			x.A, x.B = register(), min(next()%(f.Regs-len(f.Params)+1), f.Regs-1)
		case api.OpMove, api.OpNot:
			x.A, x.B = register(), register()
		case api.OpRet:
			x.A = register()
		default:
			x.A, x.B, x.C = register(), register(), register()
		}
		f.Code = append(f.Code, x)
	}
	f.Code = append(f.Code, api.Ins{Op: api.OpRet})
	m.Funcs = []api.Func{f}
	return m
}

func FuzzAgainstModel(f *testing.F) {
	f.Add([]byte{})
	f.Add([]byte{1, 8, 1, 0, 1, 253, 9, 17, 1, 0, 2, 18, 1, 0, 0, 0})
	f.Add([]byte{2, 4, 9, 2, 3, 1, 0, 9, 1, 1, 0, 17, 1, 0, 5, 3, 2, 2, 1, 18, 1, 1, 0, 2, 0, 0, 0})
	f.Add([]byte{0, 4, 0, 1, 3, 9, 1, 1, 0, 17, 2, 0, 6, 1, 3, 2, 17, 3, 2, 5, 18, 3, 3, 18, 2, 1, 0, 0, 0, 0})
	f.Fuzz(func(t *testing.T, b []byte) {
		var y tally
		y.held(t, newMaker(uint64(len(b))), read(b), 3)
	})
}
