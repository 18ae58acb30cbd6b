package bounds_test

import (
	"slices"
	"testing"

	"soffit/api"
)

// P16.1: a call's arguments lie in the ranges of the function that it calls, not of its own; its value may be anything.
func TestCall(t *testing.T) {
	m := text("func f 4 0 50 60 70 80", "call 0 1 1", "call 1 1 1", "call 2 1 1", "call 3 0 1", "call 3 2 1", "ret 0",
		"func g 2 0 0 5 -1 1", "ret 0")
	in := l(n(7), s(-9, 3), s(1, 9), s(-1, 8))
	told(t, "another one", m, 0, 0, 1, in, all, s(0, 3), n(1), s(-1, 8))
	told(t, "the first argument's", m, 0, 1, 2, in, n(7), all, n(1), s(-1, 8))
	told(t, "the second argument's", m, 0, 2, 3, in, n(7), s(0, 3), all, s(-1, 8))
	shut(t, "a first argument above", m, 0, 3, 4, in)
	told(t, "from the first register on", m, 0, 3, 4, l(s(5, 7), s(-9, -1), n(0), n(0)), n(5), n(-1), n(0), all)
	told(t, "up to the last register", m, 0, 4, 5, l(n(7), n(7), all, all), n(7), n(7), s(0, 5), all)
	for _, none := range [][]api.Span{l(n(0), n(6), n(0), n(0)), l(n(0), n(-1), n(0), n(0)), l(n(0), n(0), n(2), n(0)), l(n(0), n(0), n(-2), n(0)), l(n(0), s(6, most), s(2, most), n(0)), l(n(0), s(least, -1), all, n(0)), l(n(0), all, s(least, -2), n(0))} {
		shut(t, "an argument out of its range", m, 0, 0, 1, none)
		shut(t, "an argument out of its range, written", m, 0, 1, 2, none)
	}
	for _, in := range [][]api.Span{l(n(0), n(0), n(-1), n(0)), l(n(0), n(5), n(1), n(0)), l(n(0), s(0, 5), s(-1, 1), n(0))} {
		told(t, "arguments that lie within", m, 0, 0, 1, in, all, in[1], in[2], n(0))
	}
}

// P16.1: the same register is an argument of two calls, of the same place and of others; each call leaves it in its own range.
func TestCallsShare(t *testing.T) {
	m := text("func f 3 0", "call 0 1 1", "call 0 1 2", "call 2 0 1", "call 2 1 1", "ret 0",
		"func g 2 0 0 5 -1 1", "ret 0", "func h 1 0 3 9", "ret 0")
	told(t, "the first one", m, 0, 0, 1, l(n(0), all, all), all, s(0, 5), s(-1, 1))
	told(t, "the second one, at the same place", m, 0, 1, 2, l(n(0), s(0, 5), s(-1, 1)), all, s(3, 5), s(-1, 1))
	told(t, "as a second argument", m, 0, 2, 3, l(n(0), s(-7, 0), n(0)), n(0), s(-1, 0), all)
	told(t, "as a first argument", m, 0, 3, 4, l(n(0), s(-7, 0), n(1)), n(0), n(0), all)
	a := done(t, "one behind the other", text("func f 3 0 -9 9 -9 9", "call 2 0 1", "call 2 1 1", "call 2 0 2", "ret 0",
		"func g 1 0 0 5", "ret 0", "func h 2 0 2 9 -4 3", "ret 0"), 0)
	stands(t, "one behind the other", a, 1, s(0, 5), s(-9, 9), all)
	stands(t, "one behind the other", a, 2, s(0, 5), s(0, 5), all)
	stands(t, "one behind the other", a, 3, s(2, 5), s(0, 3), all)
}

// P16.1: calls without arguments, of as many as may be, of itself, and of functions ahead and behind.
func TestCallKinds(t *testing.T) {
	m := text("func f 1 0", "ret 0",
		"func g 9 0 1 1 2 2 3 3 4 4 5 5 6 6 7 7 8 8", "call 0 8 0", "call 8 1 1", "call 0 0 1", "call 8 0 2", "ret 0",
		"func h 1 0 -2 -1", "ret 0")
	wide := slices.Repeat(l(all), 9)
	told(t, "no arguments", m, 1, 0, 1, slices.Repeat(l(n(3)), 9), append(l(all), slices.Repeat(l(n(3)), 8)...)...)
	told(t, "eight, up to the last register", m, 1, 1, 2, wide, all, n(1), n(2), n(3), n(4), n(5), n(6), n(7), all)
	told(t, "eight, from the first register on", m, 1, 2, 3, wide, all, n(2), n(3), n(4), n(5), n(6), n(7), n(8), all)
	told(t, "a function behind", m, 1, 3, 4, wide, s(-2, -1), all, all, all, all, all, all, all, all)
	for i := range 8 {
		in := slices.Clone(wide)
		in[i+1] = n(int64(i))
		shut(t, "eight, one out of its range", m, 1, 1, 2, in)
		in[i+1] = s(int64(i+1), 99)
		if i < 7 {
			told(t, "eight, one at its range's end", m, 1, 1, 2, in, all, n(1), n(2), n(3), n(4), n(5), n(6), n(7), all)
		}
	}
	m = text("func f 2 0 -9223372036854775808 9223372036854775807 9223372036854775807 9223372036854775807", "call 0 0 0", "ret 0")
	told(t, "ranges at the ends", m, 0, 0, 1, l(n(least), all), all, n(most))
	shut(t, "ranges at the ends", m, 0, 0, 1, l(n(least), s(least, most-1)))
}

// P16.1: what is asked wrongly isn't gone.
func TestEdgeWrong(t *testing.T) {
	m := text("func f 2 4", "if 0 3", "load 0 1 0", "ret 0", "step 1 0", "jump 5", "ret 0", "func g 1 0", "set 0 1", "jump 0")
	in := l(s(0, 4), s(0, 4))
	told(t, "rightly", m, 0, 0, 1, in, n(0), s(0, 4))
	told(t, "rightly", m, 1, 0, 1, l(n(0)), n(1))
	for _, fn := range []int{-1, 2, 3, least, most, 1 << 32} {
		shut(t, "no such function", m, fn, 0, 1, in)
		shut(t, "no such function", m, fn, 0, 1, l(n(0)))
	}
	for _, to := range []int{-1, 0, 2, 4, 5, 6, 7, least, most, 1 << 32, 1<<32 + 1, 1<<32 + 3} {
		shut(t, "to what it doesn't lead", m, 0, 0, to, in)
	}
	for _, from := range []int{-1, 6, 7, least, most, 1 << 32} {
		for _, to := range []int{from + 1, 0, 1, 3} {
			shut(t, "from no instruction", m, 0, from, to, in)
		}
	}
	for to := -1; to < 8; to++ {
		shut(t, "from a ret", m, 0, 2, to, in)
		if to != 0 {
			shut(t, "from a step", m, 0, 3, to, in)
		}
		if to != 5 {
			shut(t, "from a jump", m, 0, 4, to, in)
		}
		if to != 2 {
			shut(t, "from a load", m, 0, 1, to, in)
		}
	}
	for _, in := range [][]api.Span{nil, l(), l(n(0)), l(n(0), n(0), n(0)), slices.Repeat(l(n(0)), 64), l(n(0), n(0), s(1, 0))} {
		shut(t, "too few or too many", m, 0, 0, 1, in)
		shut(t, "too few or too many", m, 0, 1, 2, in)
	}
	shut(t, "too many", m, 1, 0, 1, in)
	shut(t, "as many as another function has", m, 0, 0, 1, l(n(0)))
	for _, none := range []api.Span{s(1, 0), s(0, -1), s(most, least), s(most, most-1), s(least+1, least)} {
		for from, to := range map[int]int{0: 1, 1: 2, 3: 0, 4: 5} {
			shut(t, "one without a number", m, 0, from, to, l(none, n(0)))
			shut(t, "one without a number", m, 0, from, to, l(n(0), none))
			shut(t, "both without a number", m, 0, from, to, l(none, none))
		}
	}
	told(t, "as many as there are, others in spare room", m, 0, 0, 1, l(n(0), n(0), s(1, 0))[:2], n(0), n(0))
}

// P16.1: of a module that may not be no way is gone, wherever it is wrong.
func TestEdgeMayNotBe(t *testing.T) {
	for what, m := range wrongModules() {
		for fn := range 3 {
			for from := range 3 {
				shut(t, what, m, fn, from, from+1, l(n(0), n(0)))
				shut(t, what, m, fn, from, 0, l(n(0), n(0)))
			}
		}
	}
}

// wrongModules are modules that may not be, each for one reason.
func wrongModules() map[string]api.Module {
	right := func() api.Module {
		return text("widen 1 5", "func f 2 4", "set 0 1", "step 0 0", "func g 2 0 0 5", "set 1 1", "call 0 1 1", "ret 0")
	}
	all := map[string]api.Module{}
	for what, spoil := range map[string]func(m *api.Module){
		"thresholds":   func(m *api.Module) { m.Thresholds[1] = 1 },
		"17":           func(m *api.Module) { m.Thresholds = make([]int64, 17) },
		"functions":    func(m *api.Module) { m.Funcs = make([]api.Func, 33) },
		"name":         func(m *api.Module) { m.Funcs[1].Name = "G" },
		"twice":        func(m *api.Module) { m.Funcs[1].Name = "f" },
		"parameters":   func(m *api.Module) { m.Funcs[1].Params = make([]api.Span, 9) },
		"empty":        func(m *api.Module) { m.Funcs[1].Params[0].Lo = 6 },
		"no registers": func(m *api.Module) { m.Funcs[1].Regs = 0 },
		"registers":    func(m *api.Module) { m.Funcs[1].Regs = 65 },
		"words":        func(m *api.Module) { m.Funcs[0].Words = 4097 },
		"words below":  func(m *api.Module) { m.Funcs[1].Words = -1 },
		"no code":      func(m *api.Module) { m.Funcs[1].Code = nil },
		"code":         func(m *api.Module) { m.Funcs[1].Code = make([]api.Ins, 1025) },
		"operation":    func(m *api.Module) { m.Funcs[0].Code[0].Op = 20 },
		"unused":       func(m *api.Module) { m.Funcs[1].Code[0].C = 1 },
		"register":     func(m *api.Module) { m.Funcs[0].Code[0].A = 2 },
		"target":       func(m *api.Module) { m.Funcs[0].Code[1].N = 2 },
		"call":         func(m *api.Module) { m.Funcs[1].Code[1].N = 2 },
		"room":         func(m *api.Module) { m.Funcs[1].Params = l(n(0), n(0)) },
		"fall":         func(m *api.Module) { m.Funcs[1].Code[2] = api.Ins{Op: api.OpSet} },
	} {
		m := right()
		spoil(&m)
		all[what] = m
	}
	return all
}
