package code_test

import (
	"fmt"
	"math/rand/v2"
	"regexp"
	"slices"
	"strings"
	"testing"

	"soffit/api"
	"soffit/code"
)

// The model lists all that is wrong with a module, in any order, each thing with the place that the chapter's order gives it, and takes the first.

type finding struct {
	place [4]int
	fault api.Fault
}

type findings []finding

func (l *findings) add(wrong bool, e api.Errno, f, at int, place ...int) {
	if wrong {
		x := finding{fault: api.Fault{E: e, Func: f, At: at}}
		copy(x.place[:], place)
		*l = append(*l, x)
	}
}

var modelName = regexp.MustCompile(`\A[a-z][a-z0-9]{0,15}\z`)

func (l *findings) head(m api.Module, f int) {
	g := m.Funcs[f]
	l.add(!modelName.MatchString(g.Name), api.ErrName, f, 0, 3, f, 0)
	for _, ahead := range m.Funcs[:f] {
		l.add(ahead.Name == g.Name, api.ErrTwice, f, 0, 3, f, 1)
	}
	l.add(len(g.Params) > 8, api.ErrMany, f, 8, 3, f, 2)
	for i, p := range g.Params {
		l.add(p.Hi < p.Lo, api.ErrEmpty, f, i, 3, f, 3, i)
	}
	l.add(g.Regs > 64 || g.Regs <= 0 || len(g.Params) > g.Regs, api.ErrRegs, f, 0, 3, f, 4)
	l.add(g.Words > 4096 || g.Words < 0, api.ErrWords, f, 0, 3, f, 5)
	l.add(len(g.Code) == 0 || len(g.Code) > 1024, api.ErrCode, f, 0, 3, f, 6)
}

func (l *findings) instruction(m api.Module, f, i int) {
	g := m.Funcs[f]
	x := g.Code[i]
	add := func(wrong bool, e api.Errno, field int) { l.add(wrong, e, f, i, 4, f, i, field) }
	if x.Op < 0 || x.Op > 19 {
		add(true, api.ErrOp, 0)
		return
	}
	o := operations[x.Op]
	for k, n := range []int{x.A, x.B, x.C} {
		if strings.Contains(o.fields, "ABC"[k:k+1]) {
			add(!(0 <= n && n <= g.Regs-1), api.ErrReg, k)
		} else {
			add(n != 0, api.ErrUnused, k)
		}
	}
	switch o.word {
	case "set", "load", "store":
	case "jump", "if", "unless", "count", "step":
		add(!(0 <= x.N && x.N <= int64(len(g.Code)-1)), api.ErrJump, 3)
	case "check":
		add(!(1 <= x.N && x.N <= 4096), api.ErrRange, 3)
	case "call":
		if 0 <= x.N && x.N < int64(len(m.Funcs)) {
			add(len(m.Funcs[x.N].Params) > g.Regs-x.B, api.ErrCall, 3)
		} else {
			add(true, api.ErrCall, 3)
		}
	default:
		add(x.N != 0, api.ErrUnused, 3)
	}
}

func modelMay(m api.Module) api.Fault {
	var l findings
	l.add(len(m.Thresholds) > 16, api.ErrMany, 0, 16, 1, 0)
	for i, n := range m.Thresholds {
		l.add(i > 0 && !(m.Thresholds[max(i-1, 0)] < n), api.ErrOrder, 0, i, 1, 1, i)
	}
	l.add(len(m.Funcs) > 32, api.ErrMany, 32, 0, 2)
	for f, g := range m.Funcs {
		l.head(m, f)
		for i := range g.Code {
			l.instruction(m, f, i)
		}
		if n := len(g.Code); n > 0 {
			last := g.Code[n-1].Op
			l.add(last != 0 && last != 14 && last != 18, api.ErrFall, f, n-1, 4, f, n)
		}
	}
	if len(l) == 0 {
		return api.Fault{}
	}
	return slices.MinFunc(l, func(a, b finding) int { return slices.Compare(a.place[:], b.place[:]) }).fault
}

// against holds May to the model, and a module that may be to what follows.
func against(t *testing.T, m api.Module) {
	t.Helper()
	want := modelMay(m)
	if f := code.May(m); f != want {
		t.Errorf("May(%v): %v, not %v", m, f, want)
	}
	if want.E == api.OK {
		follows(t, m)
	}
}

// P9.4, P9.6: every instruction with small numbers in its fields, in a small function, last and not.
func TestSmall(t *testing.T) {
	for op := -1; op <= 20; op++ {
		for which := range 5 * 5 * 5 * 5 {
			x := api.Ins{Op: op, A: which%5 - 1, B: which/5%5 - 1, C: which/25%5 - 1, N: int64(which/125 - 1)}
			for _, list := range [][]api.Ins{{x}, {x, ret}, {ret, x}} {
				against(t, module(api.Func{Name: "f", Params: make([]api.Span, 1), Regs: 2, Code: list}, fn("g", 2, 3)))
			}
		}
	}
}

// maker makes modules at random, always the same ones.
type maker struct{ *rand.Rand }

func (k maker) pick(list ...int) int { return list[k.IntN(len(list))] }

// near is a number at or beside an edge that some limit has.
func (k maker) near(limits ...int) int {
	switch k.IntN(8) {
	case 0:
		return k.pick(least, least+1, most, most-1, 1<<32, -1<<32)
	case 1:
		return k.IntN(20) - 10
	}
	return k.pick(append(limits, 0)...) + k.IntN(3) - 1
}

func (k maker) name() string {
	const signs = "abcxyz0189"
	s := signs[k.IntN(6):][:1]
	for n := k.pick(0, 1, 2, 15); n > 0; n-- {
		s += string(signs[k.IntN(len(signs))])
	}
	return s
}

func (k maker) span() api.Span {
	lo, hi := int64(k.near()), int64(k.near())
	return api.Span{Lo: min(lo, hi), Hi: max(lo, hi)}
}

func (k maker) heads() []api.Func {
	var list []api.Func
	for range k.pick(0, 1, 1, 2, 3, 5, 32) {
		f := api.Func{Name: fmt.Sprint(k.name()[:1], len(list), "k"), Words: k.pick(0, 1, 4096, 77)}
		for range k.pick(0, 0, 1, 2, 3, 8) {
			f.Params = append(f.Params, k.span())
		}
		f.Regs = max(len(f.Params), 1) + k.pick(0, 0, 1, 5)
		if k.IntN(8) == 0 {
			f.Regs = 64
		}
		f.Code = make([]api.Ins, k.pick(1, 2, 3, 5, 9))
		list = append(list, f)
	}
	return list
}

// instruction makes one that may stand in the function f.
func (k maker) instruction(m api.Module, f api.Func, op int) api.Ins {
	x := api.Ins{Op: op}
	for _, field := range operations[op].fields {
		set(&x, field, int64(k.IntN(f.Regs)))
	}
	switch operations[op].word {
	case "set", "load", "store":
		x.N = int64(k.near(4096))
	case "check":
		x.N = int64(k.pick(1, 2, 4095, 4096))
	case "jump", "if", "unless", "count", "step":
		x.N = int64(k.IntN(len(f.Code)))
	case "call":
		x.N = int64(k.IntN(len(m.Funcs)))
		room := f.Regs - len(m.Funcs[x.N].Params)
		if room < 0 {
			return ret
		}
		x.B = min(k.IntN(room+1), f.Regs-1)
	}
	return x
}

// module makes one that may be.
func (k maker) module() api.Module {
	var m api.Module
	for range k.pick(0, 1, 2, 3, 16) {
		m.Thresholds = append(m.Thresholds, int64(k.near(100)))
	}
	slices.Sort(m.Thresholds)
	m.Thresholds = slices.Compact(m.Thresholds)
	m.Funcs = k.heads()
	for _, f := range m.Funcs {
		for i := range f.Code {
			f.Code[i] = k.instruction(m, f, k.IntN(20))
		}
		f.Code[len(f.Code)-1] = k.instruction(m, f, k.pick(0, 14, 18))
	}
	return m
}

// spoil turns one thing of a module, so that it is wrong, mostly.
func (k maker) spoil(m *api.Module) {
	if n := len(m.Thresholds); n > 0 && k.IntN(12) == 0 {
		m.Thresholds[k.IntN(n)] = int64(k.near(100))
		return
	}
	if k.IntN(40) == 0 {
		m.Thresholds = append(m.Thresholds, int64(k.near(1000)))
		return
	}
	if len(m.Funcs) == 0 || k.IntN(40) == 0 {
		m.Funcs = append(m.Funcs, fn(k.name(), 0, 1))
		return
	}
	f := &m.Funcs[k.IntN(len(m.Funcs))]
	if k.IntN(3) != 0 && len(f.Code) > 0 {
		x := &f.Code[k.IntN(len(f.Code))]
		if k.IntN(4) == 0 {
			x.Op = k.near(19)
		} else {
			set(x, rune("ABCN"[k.IntN(4)]), int64(k.near(f.Regs, len(f.Code), len(m.Funcs), 4096)))
		}
		return
	}
	k.spoilHead(m, f)
}

func (k maker) spoilHead(m *api.Module, f *api.Func) {
	switch k.IntN(8) {
	case 0:
		f.Name = []string{"", "A", "a-", "0a", "fn", "a\n", fullName, fullName + "a"}[k.IntN(8)]
	case 1:
		f.Name = m.Funcs[k.IntN(len(m.Funcs))].Name
	case 2:
		f.Params = append(f.Params, make([]api.Span, k.pick(1, 2, 8))...)
	case 3:
		if n := len(f.Params); n > 0 {
			f.Params[k.IntN(n)] = api.Span{Lo: int64(k.near()), Hi: int64(k.near())}
		}
	case 4:
		f.Regs = k.near(len(f.Params), 64)
	case 5:
		f.Words = k.near(4096)
	case 6:
		f.Code = f.Code[:k.IntN(len(f.Code)+1)]
	case 7:
		f.Code = append(rets(k.pick(1, 1023, 1024)), f.Code...)
	}
}

// P9.4, P9.6: modules at random, with nothing wrong and with several things.
func TestRandom(t *testing.T) {
	k := maker{rand.New(rand.NewPCG(9, 1))}
	told := map[api.Errno]int{}
	for range 60000 {
		m := k.module()
		if f := code.May(m); f != (api.Fault{}) {
			t.Fatalf("a module that may be: %v: %v", m, f)
		}
		follows(t, m)
		for range 1 + k.IntN(4) {
			k.spoil(&m)
			against(t, m)
			told[modelMay(m).E]++
		}
	}
	for _, e := range []api.Errno{api.OK, api.ErrMany, api.ErrName, api.ErrTwice, api.ErrRange, api.ErrEmpty, api.ErrOp, api.ErrReg, api.ErrUnused, api.ErrJump, api.ErrFall, api.ErrCall, api.ErrOrder, api.ErrRegs, api.ErrWords, api.ErrCode} {
		if told[e] < 100 {
			t.Errorf("the error %d was met %d times only", e, told[e])
		}
	}
}
