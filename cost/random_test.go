package cost_test

import (
	"math/rand/v2"
	"slices"
	"testing"

	"soffit/api"
	"soffit/cost"
)

// maker makes modules that may be, at random.
type maker struct{ *rand.Rand }

func newMaker(seed uint64) maker { return maker{rand.New(rand.NewPCG(18, seed))} }

// value is a small number most of the time, else one at or near an end, or any.
func (k maker) value() int64 {
	switch k.IntN(12) {
	case 0:
		return []int64{least, least + 1, most, most - 1}[k.IntN(4)]
	case 1:
		return int64(k.Uint64())
	case 2:
		return []int64{1 << 31, 1 << 32, -1 << 32, 1 << 62, 100, -100}[k.IntN(6)]
	}
	return int64(k.IntN(12) - 4)
}

// span has a number at least.
func (k maker) span() api.Span {
	a, b := k.value(), k.value()
	switch k.IntN(5) {
	case 0:
		b = a
	case 1:
		a = 0
	case 2, 3:
		return s(int64(k.IntN(7)-3), int64(4+k.IntN(9)))
	}
	return s(min(a, b), max(a, b))
}

// in is a number of a span, one of its ends more often.
func (k maker) in(a api.Span) int64 {
	switch v := a.Lo + int64(k.Uint64()%16); {
	case k.IntN(3) == 0:
		return a.Lo
	case k.IntN(2) == 0:
		return a.Hi
	case a.Lo <= v && v <= a.Hi:
		return v
	}
	return a.Lo + int64(k.Uint64()%max(1, uint64(a.Hi)-uint64(a.Lo)))
}

// thresholds are none most of the time, else up to as many as may be.
func (k maker) thresholds() []int64 {
	var list []int64
	for range k.IntN([]int{1, 1, 4, 17}[k.IntN(4)]) {
		list = append(list, k.value()*int64(1+k.IntN(3)))
	}
	slices.Sort(list)
	return slices.Compact(list)
}

// module is one of few functions, without code.
func (k maker) module() api.Module {
	m := api.Module{Thresholds: k.thresholds()}
	for i := range 1 + k.IntN(4) {
		f := api.Func{Name: string(rune('f' + i)), Regs: 2 + k.IntN([]int{1, 3, 5}[k.IntN(3)]), Words: k.IntN([]int{2, 5, 4097}[k.IntN(3)])}
		for range k.IntN(min(4, f.Regs) + 1) {
			f.Params = append(f.Params, k.span())
		}
		m.Funcs = append(m.Funcs, f)
	}
	return m
}

// below are by function those that it may call, so that none calls itself round.
func (k maker) below(m api.Module) [][]int {
	order, callees := k.Perm(len(m.Funcs)), make([][]int, len(m.Funcs))
	for i, fn := range order {
		callees[fn] = slices.Clone(order[:i])
	}
	return callees
}

// plain is an instruction that leads to the next one, with calls of some functions alone.
func (k maker) plain(m api.Module, f api.Func, callees []int) api.Ins {
	a, b, c := k.IntN(f.Regs), k.IntN(f.Regs), k.IntN(f.Regs)
	switch op := 1 + k.IntN(13); op {
	case api.OpSet:
		return api.Ins{Op: op, A: a, N: k.value()}
	case api.OpMove, api.OpNot:
		return api.Ins{Op: op, A: a, B: b}
	case api.OpLoad, api.OpStore:
		return api.Ins{Op: op, A: a, B: b, N: int64(k.IntN(5) - 2)}
	case api.OpCheck:
		return api.Ins{Op: op, A: a, N: []int64{1, 2, 5, 9, 4096}[k.IntN(5)]}
	default:
		if op == api.OpAdd && len(callees) > 0 && k.IntN(4) > 0 {
			if fn := callees[k.IntN(len(callees))]; len(m.Funcs[fn].Params) <= f.Regs {
				return api.Ins{Op: api.OpCall, A: a, B: k.IntN(min(f.Regs-len(m.Funcs[fn].Params)+1, f.Regs)), N: int64(fn)}
			}
		}
		return api.Ins{Op: op, A: a, B: b, C: c}
	}
}

// wild is a module whose code is any that may be, with steps and counts more often.
func (k maker) wild() api.Module {
	m := k.module()
	callees := k.below(m)
	for fn := range m.Funcs {
		f := &m.Funcs[fn]
		if k.IntN(20) == 0 {
			callees[fn] = append(callees[fn], k.IntN(len(m.Funcs)))
		}
		length := 2 + k.IntN([]int{3, 6, 10, 16}[k.IntN(4)])
		// Many of the steps go back to the last count, so that some of the loops do count.
		head := 0
		for at := range length {
			x := k.plain(m, *f, callees[fn])
			to := int64(k.IntN(length))
			if k.IntN(2) == 0 {
				to = int64(head)
			}
			switch n := k.IntN(16); {
			case n < 3 || at == length-1 && n < 4:
				x = api.Ins{Op: api.OpStep, A: k.IntN(2), N: to}
			case n == 3 || at == length-1 && n < 6:
				x = api.Ins{Op: api.OpJump, N: to}
			case n == 4 || at == length-1:
				x = api.Ins{A: k.IntN(f.Regs)}
			case n < 7:
				x = api.Ins{Op: []int{api.OpIf, api.OpUnless}[k.IntN(2)], A: k.IntN(f.Regs), N: to}
			case n < 9:
				x = api.Ins{Op: api.OpCount, A: k.IntN(2), B: k.IntN(f.Regs), N: int64(length - 1)}
				head = at
			}
			f.Code = append(f.Code, x)
		}
	}
	return m
}

// writer writes code whose loops count.
type writer struct {
	maker
	m api.Module
	f *api.Func
	// busy are the registers that the loops around count by.
	busy []int
	// callees are the functions that may be called.
	callees []int
	// great tells whether bounds may be great.
	great bool
}

func (w *writer) put(x api.Ins) int {
	w.f.Code = append(w.f.Code, x)
	return len(w.f.Code) - 1
}

// act puts an instruction that writes no register of a loop around, and seldom one that may end a run.
func (w *writer) act() {
	for {
		x := w.plain(w.m, *w.f, w.callees)
		ends := slices.Contains([]int{api.OpDiv, api.OpRem, api.OpLoad, api.OpStore, api.OpCheck, api.OpCall}, x.Op)
		if (!ends || w.IntN(8) == 0) && (x.Op == api.OpStore || x.Op == api.OpCheck || !slices.Contains(w.busy, x.A)) {
			w.put(x)
			return
		}
	}
}

// call puts a call of a function, whose arguments are within its ranges.
func (w *writer) call() {
	if len(w.callees) == 0 {
		return
	}
	fn := w.callees[w.IntN(len(w.callees))]
	params := w.m.Funcs[fn].Params
	a, b := w.free(), w.IntN(w.f.Regs)
	for i := range params {
		if b+i >= w.f.Regs || slices.Contains(w.busy, b+i) {
			return
		}
	}
	if a < 0 {
		return
	}
	for i, p := range params {
		w.put(api.Ins{Op: api.OpSet, A: b + i, N: w.in(p)})
	}
	w.put(api.Ins{Op: api.OpCall, A: a, B: b, N: int64(fn)})
}

// bound is how often a loop may go round.
func (w *writer) bound() int64 {
	switch {
	case w.great && w.IntN(3) > 0:
		return w.Int64N(1 << (1 + w.IntN(61)))
	case w.great && w.IntN(8) == 0:
		return most - w.Int64N(9)
	}
	return int64(w.IntN(6))
}

// branch puts an if or an unless whose target is still to be told.
func (w *writer) branch() int {
	return w.put(api.Ins{Op: []int{api.OpIf, api.OpUnless}[w.IntN(2)], A: w.IntN(w.f.Regs)})
}

func (w *writer) here(places []int) {
	for _, at := range places {
		w.f.Code[at].N = int64(len(w.f.Code))
	}
}

// free is a register that no loop around counts by, or -1.
func (w *writer) free() int {
	for range 20 {
		if a := w.IntN(w.f.Regs); !slices.Contains(w.busy, a) {
			return a
		}
	}
	return -1
}

// loop puts a loop: several ways into it, perhaps several ways back and out of its middle.
func (w *writer) loop(depth int) {
	a, b := w.free(), w.IntN(w.f.Regs)
	if a < 0 || a == b {
		return
	}
	if w.IntN(2) == 0 && !slices.Contains(w.busy, b) {
		w.put(api.Ins{Op: api.OpSet, A: b, N: w.bound()})
	}
	var early, out []int
	for range w.IntN(4) {
		if early = append(early, w.branch()); w.IntN(2) == 0 {
			w.put(api.Ins{Op: api.OpSet, A: a, N: int64(w.IntN(9) - 4)})
		}
		if w.IntN(2) == 0 {
			w.act()
		}
	}
	w.here(early)
	head := w.put(api.Ins{Op: api.OpCount, A: a, B: b})
	w.busy = append(w.busy, a, b)
	w.block(depth - 1)
	if w.IntN(4) == 0 {
		skip := w.branch()
		w.put(api.Ins{Op: api.OpStep, A: a, N: int64(head)})
		w.here([]int{skip})
	}
	if w.IntN(4) == 0 {
		out = append(out, w.branch())
		w.act()
	}
	w.put(api.Ins{Op: api.OpStep, A: a, N: int64(head)})
	w.busy = w.busy[:len(w.busy)-2]
	w.here(append(out, head))
}

// block puts some loops, branches, and what goes straight on.
func (w *writer) block(depth int) {
	for range 1 + w.IntN(3) {
		switch n := w.IntN(7); {
		case n == 6:
			w.call()
		case depth > 0 && n < 3:
			w.loop(depth)
		case depth > 0 && n == 3:
			skip := w.branch()
			w.block(depth - 1)
			w.here([]int{skip})
		case n == 5:
			if a := w.free(); a >= 0 {
				w.put(api.Ins{Op: api.OpSet, A: a, N: int64(w.IntN(14) - 4)})
			}
		default:
			w.act()
		}
	}
}

// counting is a module whose functions have loops that count, and of which none calls itself round.
func (k maker) counting(great bool) api.Module {
	m := k.module()
	callees := k.below(m)
	for fn := range m.Funcs {
		m.Funcs[fn].Regs += 4
	}
	for fn := range m.Funcs {
		w := &writer{maker: k, m: m, f: &m.Funcs[fn], callees: callees[fn], great: great}
		w.block(3)
		w.put(api.Ins{A: k.IntN(w.f.Regs)})
	}
	return m
}

// mixed is the same module, with each function's instructions but the first one in any order, a jump behind each of them.
func (k maker) mixed(m api.Module) api.Module {
	funcs := slices.Clone(m.Funcs)
	for fn, f := range funcs {
		places := k.Perm(len(f.Code))
		first := slices.Index(places, 0)
		places[0], places[first] = places[first], places[0]
		out := make([]api.Ins, 2*len(f.Code))
		for at, x := range f.Code {
			if slices.Contains([]int{api.OpJump, api.OpStep, api.OpIf, api.OpUnless, api.OpCount}, x.Op) {
				x.N = int64(2 * places[x.N])
			}
			next := api.Ins{}
			if at+1 < len(f.Code) {
				next = api.Ins{Op: api.OpJump, N: int64(2 * places[at+1])}
			}
			out[2*places[at]], out[2*places[at]+1] = x, next
		}
		funcs[fn].Code = out
	}
	return api.Module{Thresholds: m.Thresholds, Funcs: funcs}
}

// spoiled is the same module, with a few instructions that are others.
func (k maker) spoiled(m api.Module) api.Module {
	m = copied(m)
	for fn := range m.Funcs {
		f := m.Funcs[fn]
		for range 1 + k.IntN(2) {
			x := &f.Code[k.IntN(len(f.Code))]
			switch to := int64(k.IntN(len(f.Code))); {
			case x.Op == api.OpRet:
			case slices.Contains([]int{api.OpJump, api.OpStep, api.OpIf, api.OpUnless, api.OpCount}, x.Op):
				x.N = to
			case k.IntN(2) == 0:
				*x = api.Ins{Op: api.OpIf, A: x.A, N: to}
			default:
				*x = k.plain(m, f, []int{k.IntN(len(m.Funcs))})
			}
		}
	}
	return m
}

// held holds a module to all, with some runs by hand of each function.
func (y *tally) held(t *testing.T, k maker, m api.Module, times int) {
	t.Helper()
	l, fault := against(t, m)
	y.saw(m, l, fault)
	for fn := range l {
		y.follow(t, k, m, l, fn, times)
	}
}

// P18.1, P18.2, P18.3: any modules at random that may be.
func TestRandom(t *testing.T) {
	k := newMaker(1)
	var y tally
	for range 20000 {
		y.held(t, k, k.wild(), 4)
	}
	if y.accepted < 2000 || y.faulty < 15000 || y.late < 3000 || y.round < 3 || y.ceiling < 2 || y.loops < 40 || y.met < 8000 {
		t.Errorf("the test's own modules: %+v", y)
	}
}

// P18.1, P18.2, P18.3: modules at random whose loops count, in rows and mixed.
func TestRandomCounting(t *testing.T) {
	k := newMaker(2)
	var y tally
	for range 1000 {
		m := k.counting(false)
		y.held(t, k, m, 10)
		y.held(t, k, k.mixed(m), 3)
	}
	if y.accepted < 1300 || y.ceiling < 300 || y.late < 200 || y.loops < 6000 || y.nested < 3000 || y.called < 900 || y.met < 8000 || y.calls < 6000 {
		t.Errorf("the test's own modules: %+v", y)
	}
}

// P18.1, P18.2, P18.3: such modules of which a few instructions are others, so that some loops do not count, or are others, and some functions call one another round.
func TestRandomSpoiled(t *testing.T) {
	k := newMaker(3)
	var y tally
	for range 2000 {
		y.held(t, k, k.spoiled(k.counting(false)), 5)
	}
	if y.accepted < 300 || y.faulty < 1300 || y.ceiling < 15 || y.late < 400 || y.round < 2 || y.loops < 500 || y.met < 1400 {
		t.Errorf("the test's own modules: %+v", y)
	}
}

// P18.1, P18.2, P18.3: such modules with many rounds, so that many are above the greatest ceiling.
func TestRandomGreat(t *testing.T) {
	k := newMaker(4)
	var y tally
	for range 1000 {
		m := k.counting(true)
		y.held(t, k, m, 3)
		y.held(t, k, k.mixed(m), 1)
	}
	if y.accepted < 1000 || y.ceiling < 600 || y.late < 350 || y.loops < 4000 || y.nested < 2000 || y.met < 1700 {
		t.Errorf("the test's own modules: %+v", y)
	}
}

// edge goes with one number of a module to where it begins to have a fault; false: there is none between its ends.
func edge(m api.Module, n *int64) bool {
	faulty := func(value int64) bool {
		*n = value
		_, fault := cost.Of(m)
		return fault.E != api.OK
	}
	right, wrong := int64(0), int64(most)
	if faulty(right) || !faulty(wrong) {
		return false
	}
	for wrong-right > 1 {
		if middle := right + (wrong-right)/2; faulty(middle) {
			wrong = middle
		} else {
			right = middle
		}
	}
	*n = right
	return true
}

// edged holds a module to all, at and beside each edge that it has by the bounds that it sets.
func (y *tally) edged(t *testing.T, k maker, m api.Module) int {
	t.Helper()
	edges := 0
	for _, f := range m.Funcs {
		for at := range f.Code {
			x := &f.Code[at]
			was := x.N
			if x.Op == api.OpSet && edge(m, &x.N) {
				edges++
				y.held(t, k, m, 1)
				x.N++
				y.held(t, k, m, 1)
			}
			x.N = was
		}
	}
	return edges
}

// P18.1: modules at random just at the greatest ceiling, and just above it, by the bound of one of their loops.
func TestRandomEdges(t *testing.T) {
	k := newMaker(5)
	var y tally
	edges := 0
	for i := range 160 {
		edges += y.edged(t, k, k.counting(i%2 == 0))
	}
	if edges < 120 || y.accepted != edges || y.ceiling != edges || y.late < 60 || y.loops < 800 {
		t.Errorf("the test's own modules: %d, %+v", edges, y)
	}
}

// calling is a module of functions without loops that call others in many ways, some of them round.
func (k maker) calling() api.Module {
	var m api.Module
	for i := range 1 + k.IntN(7) {
		m.Funcs = append(m.Funcs, api.Func{Name: string(rune('f' + i)), Regs: 1 + k.IntN(9), Words: k.IntN(20)})
	}
	callees := k.below(m)
	if k.IntN(4) == 0 {
		fn := k.IntN(len(m.Funcs))
		callees[fn] = append(callees[fn], k.IntN(len(m.Funcs)))
	}
	for fn := range m.Funcs {
		f := &m.Funcs[fn]
		length := 1 + k.IntN(8)
		for at := range length {
			switch to := int64(at + 1 + k.IntN(length-at)); k.IntN(6) {
			case 0:
				f.Code = append(f.Code, api.Ins{Op: []int{api.OpIf, api.OpUnless, api.OpCount, api.OpJump, api.OpStep}[k.IntN(5)], N: to})
			case 1:
				f.Code = append(f.Code, api.Ins{Op: []int{api.OpRet, api.OpMul, api.OpDiv, api.OpSet}[k.IntN(4)]})
			default:
				if n := len(callees[fn]); n > 0 {
					f.Code = append(f.Code, api.Ins{Op: api.OpCall, N: int64(callees[fn][k.IntN(n)])})
				} else {
					f.Code = append(f.Code, api.Ins{Op: api.OpNot})
				}
			}
		}
		f.Code = append(f.Code, api.Ins{})
	}
	return m
}

// P18.1, P18.2, P18.3: functions at random that call one another.
func TestRandomCalls(t *testing.T) {
	k := newMaker(8)
	var y tally
	for range 10000 {
		y.held(t, k, k.calling(), 1)
	}
	if y.accepted < 8000 || y.round < 900 || y.late < 300 || y.called < 20000 || y.met < 20000 {
		t.Errorf("the test's own modules: %+v", y)
	}
}

// every goes through all rows of some numbers below another one.
func every(below int, row []int, at int, do func()) {
	if at == len(row) {
		do()
		return
	}
	for n := range below {
		row[at] = n
		every(below, row, at+1, do)
	}
}

// shortCodes are all of so many instructions of a list, of which the last one may stand at the end.
func shortCodes(list []api.Ins, length int, do func([]api.Ins)) {
	row, ins := make([]int, length), make([]api.Ins, length)
	every(len(list), row, 0, func() {
		for at, i := range row {
			ins[at] = list[i]
		}
		if slices.Contains([]int{api.OpRet, api.OpJump, api.OpStep}, ins[length-1].Op) {
			do(ins)
		}
	})
}

// branching are the instructions with a target, of two registers, each with all targets below a length.
func branching(length int) []api.Ins {
	var list []api.Ins
	for to := range length {
		n := int64(to)
		list = append(list, api.Ins{Op: api.OpJump, N: n}, step(0, to), step(1, to), api.Ins{Op: api.OpIf, A: 0, N: n}, api.Ins{Op: api.OpUnless, A: 1, N: n}, count(1, 0, to), count(0, 1, to), count(1, 1, to))
	}
	return list
}

// step and count are such instructions.
func step(a int, n int) api.Ins     { return api.Ins{Op: api.OpStep, A: a, N: int64(n)} }
func count(a, b int, n int) api.Ins { return api.Ins{Op: api.OpCount, A: a, B: b, N: int64(n)} }

// P18.1, P18.2, P18.3: all short codes, of one to five instructions, beside a function that they may call.
func TestEveryShort(t *testing.T) {
	k := newMaker(6)
	m := text("func f 2 3 -1 5", "ret 0", "func g 1 4", "mul 0 0 0", "ret 0")
	plain := []api.Ins{{}, {Op: api.OpSet, A: 1, N: 1 << 62}, {Op: api.OpMul, A: 1, B: 1, C: 0}, {Op: api.OpCheck, A: 0, N: 4}, {Op: api.OpLoad, A: 1, B: 0}, {Op: api.OpCall, A: 1, N: 1}}
	codes := 0
	var y tally
	held := func(ins []api.Ins) {
		codes++
		m.Funcs[0].Code = ins
		m.Funcs[0].Params[0].Hi = []int64{5, 1<<62 - 1, most}[codes%3]
		y.held(t, k, m, 1)
	}
	for length := 1; length <= 3; length++ {
		shortCodes(slices.Concat(plain, branching(length)), length, held)
	}
	few := []api.Ins{{}, {Op: api.OpDiv, A: 1, B: 1, C: 0}, {Op: api.OpCall, A: 1, N: 1}}
	for to := range 4 {
		few = append(few, step(1, to), count(1, 0, to), api.Ins{Op: api.OpIf, A: 0, N: int64(to)})
	}
	shortCodes(few, 4, held)
	few = []api.Ins{{}, {Op: api.OpMul, A: 1, B: 0, C: 0}, {Op: api.OpCall, A: 1, N: 1}, step(1, 0), step(1, 1), step(1, 2), count(1, 0, 3), count(1, 0, 4), {Op: api.OpIf, A: 0, N: 1}, {Op: api.OpIf, A: 0, N: 2}, {Op: api.OpIf, A: 0, N: 4}}
	shortCodes(few, 5, held)
	if codes < 80000 || y.accepted < 15000 || y.ceiling < 300 || y.loops < 180 || y.met < 25000 {
		t.Errorf("the test's own modules: %d, %+v", codes, y)
	}
}

// P18.1, P18.2, P18.3: three functions of all codes of up to two instructions ahead of a ret.
func TestEveryThree(t *testing.T) {
	k := newMaker(7)
	list := []api.Ins{{Op: api.OpMul}, {Op: api.OpIf, N: 2}, {Op: api.OpCall}, {Op: api.OpCall, N: 1}, {Op: api.OpCall, N: 2}}
	codes := [][]api.Ins{{{}}}
	for _, x := range list {
		for _, z := range list {
			codes = append(codes, []api.Ins{x, z, {}})
		}
	}
	var y tally
	m := text("func f 1 3", "ret 0", "func g 1 5", "ret 0", "func h 1 9", "ret 0")
	row := make([]int, 3)
	every(len(codes), row, 0, func() {
		for fn, i := range row {
			m.Funcs[fn].Code = codes[i]
		}
		y.held(t, k, m, 1)
	})
	if y.accepted < 2400 || y.round < 15000 || y.late < 5000 || y.met < 7000 {
		t.Errorf("the test's own modules: %+v", y)
	}
}

// source makes modules that may be of bytes, which it takes one at a time; behind their end there are zeros.
type source struct{ b []byte }

func (s *source) next() int {
	if len(s.b) == 0 {
		return 0
	}
	n := int(s.b[0])
	s.b = s.b[1:]
	return n
}

// number is a small number, or one at an end or a power of 2.
func (s *source) number() int64 {
	switch n := s.next(); {
	case n == 128:
		return least
	case n == 127:
		return most
	case n >= 90 && n < 127:
		return 1 << (n - 64)
	default:
		return int64(int8(n))
	}
}

func (s *source) module() api.Module {
	m := api.Module{}
	for range s.next() % 4 {
		m.Thresholds = append(m.Thresholds, s.number())
	}
	slices.Sort(m.Thresholds)
	m.Thresholds = slices.Compact(m.Thresholds)
	for i := range 1 + s.next()%3 {
		f := api.Func{Name: string(rune('f' + i)), Regs: 2 + s.next()%4, Words: s.next() % 4}
		for range s.next() % 3 {
			x, y := s.number(), s.number()
			f.Params = append(f.Params, api.Span{Lo: min(x, y), Hi: max(x, y)})
		}
		m.Funcs = append(m.Funcs, f)
	}
	for fn := range m.Funcs {
		f := &m.Funcs[fn]
		length := 1 + s.next()%24
		for range length - 1 {
			f.Code = append(f.Code, s.ins(m, *f, length))
		}
		f.Code = append(f.Code, api.Ins{Op: api.OpRet})
	}
	return m
}

func (s *source) ins(m api.Module, f api.Func, length int) api.Ins {
	x := api.Ins{Op: s.next() % 20}
	register := func() int { return s.next() % f.Regs }
	switch x.Op {
	case api.OpSet, api.OpCheck:
		x.A, x.N = register(), s.number()
		if x.Op == api.OpCheck {
			x.N = 1 + x.N&31
		}
	case api.OpLoad, api.OpStore:
		x.A, x.B, x.N = register(), register(), s.number()
	case api.OpJump:
		x.N = int64(s.next() % length)
	case api.OpIf, api.OpUnless, api.OpStep:
		x.A, x.N = register(), int64(s.next()%length)
	case api.OpCount:
		x.A, x.B, x.N = register(), register(), int64(s.next()%length)
	case api.OpCall:
		x.A, x.N = register(), int64(s.next()%len(m.Funcs))
	case api.OpMove, api.OpNot:
		x.A, x.B = register(), register()
	case api.OpRet:
		x.A = register()
	default:
		x.A, x.B, x.C = register(), register(), register()
	}
	return x
}

func FuzzAgainstModel(f *testing.F) {
	f.Add([]byte{})
	f.Add([]byte{0, 0, 1, 0, 0, 4, 1, 1, 10, 17, 0, 1, 4, 5, 0, 0, 0, 18, 0, 1})
	f.Add([]byte{1, 8, 1, 3, 0, 1, 253, 9, 1, 2, 0, 5, 17, 1, 0, 3, 19, 1, 1, 18, 1, 0, 0, 0, 2, 5, 0, 0, 0})
	f.Add([]byte{0, 0, 2, 1, 0, 6, 1, 1, 126, 17, 0, 1, 5, 1, 2, 3, 18, 0, 1, 0, 0})
	f.Fuzz(func(t *testing.T, b []byte) {
		var y tally
		m := (&source{b}).module()
		y.held(t, newMaker(uint64(len(b))), m, 3)
	})
}
