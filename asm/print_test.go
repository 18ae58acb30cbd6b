package asm_test

import (
	"fmt"
	"strings"
	"testing"

	"soffit/api"
	"soffit/asm"
	"soffit/code"
)

// operations are the words of the document's table, in order, and the fields of each.
var operations = []struct{ word, fields string }{
	{"ret", "A"}, {"set", "AN"}, {"move", "AB"}, {"add", "ABC"}, {"sub", "ABC"}, {"mul", "ABC"}, {"div", "ABC"}, {"rem", "ABC"}, {"less", "ABC"}, {"equal", "ABC"},
	{"not", "AB"}, {"load", "ABN"}, {"store", "ABN"}, {"check", "AN"}, {"jump", "N"}, {"if", "AN"}, {"unless", "AN"}, {"count", "ABN"}, {"step", "AN"}, {"call", "ABN"},
}

var fullName = strings.Repeat("a", api.MaxName)

// set puts a number into a field.
func set(x *api.Ins, field rune, n int64) {
	switch field {
	case 'A':
		x.A = int(n)
	case 'B':
		x.B = int(n)
	case 'C':
		x.C = int(n)
	case 'N':
		x.N = n
	}
}

// fn is a function with instructions, and a ret behind them.
func fn(name string, params, regs int, list ...api.Ins) api.Func {
	return api.Func{Name: name, Params: make([]api.Span, params), Regs: regs, Code: append(list, api.Ins{})}
}

// named is so many functions, which may all be.
func named(n int) []api.Func {
	var list []api.Func
	for i := range n {
		list = append(list, fn(fmt.Sprint("f", i), 0, 1))
	}
	return list
}

// rising is so many thresholds.
func rising(n int) []int64 {
	list := make([]int64, n)
	for i := range list {
		list[i] = int64(i) - 3
	}
	return list
}

// P10.1, P10.2: an instruction of each operation by hand, with other numbers in all its fields.
func TestInstructions(t *testing.T) {
	list := []struct {
		s string
		x api.Ins
	}{
		{"ret 5", api.Ins{Op: api.OpRet, A: 5}},
		{"set 5 6", api.Ins{Op: api.OpSet, A: 5, N: 6}},
		{"move 5 4", api.Ins{Op: api.OpMove, A: 5, B: 4}},
		{"add 5 4 3", api.Ins{Op: api.OpAdd, A: 5, B: 4, C: 3}},
		{"sub 5 4 3", api.Ins{Op: api.OpSub, A: 5, B: 4, C: 3}},
		{"mul 5 4 3", api.Ins{Op: api.OpMul, A: 5, B: 4, C: 3}},
		{"div 5 4 3", api.Ins{Op: api.OpDiv, A: 5, B: 4, C: 3}},
		{"rem 5 4 3", api.Ins{Op: api.OpRem, A: 5, B: 4, C: 3}},
		{"less 5 4 3", api.Ins{Op: api.OpLess, A: 5, B: 4, C: 3}},
		{"equal 5 4 3", api.Ins{Op: api.OpEqual, A: 5, B: 4, C: 3}},
		{"not 5 4", api.Ins{Op: api.OpNot, A: 5, B: 4}},
		{"load 5 4 -7", api.Ins{Op: api.OpLoad, A: 5, B: 4, N: -7}},
		{"store 5 4 7", api.Ins{Op: api.OpStore, A: 5, B: 4, N: 7}},
		{"check 5 6", api.Ins{Op: api.OpCheck, A: 5, N: 6}},
		{"jump 2", api.Ins{Op: api.OpJump, N: 2}},
		{"if 5 2", api.Ins{Op: api.OpIf, A: 5, N: 2}},
		{"unless 5 2", api.Ins{Op: api.OpUnless, A: 5, N: 2}},
		{"count 5 4 2", api.Ins{Op: api.OpCount, A: 5, B: 4, N: 2}},
		{"step 5 2", api.Ins{Op: api.OpStep, A: 5, N: 2}},
		{"call 5 4 1", api.Ins{Op: api.OpCall, A: 5, B: 4, N: 1}},
	}
	if len(list) != 20 {
		t.Fatal("the test's own list")
	}
	const callee = "func g 2 0 0 0 0 0\nret 0\n"
	all, text := fn("f", 0, 6), ""
	all.Code = nil
	for op, c := range list {
		if c.x.Op != op || code.Word(op) != operations[op].word {
			t.Fatal("the test's own list")
		}
		f := fn("f", 0, 6, c.x, api.Ins{Op: api.OpSet})
		is(t, module(f, fn("g", 2, 2)), "widen\nfunc f 6 0\n"+c.s+"\nset 0 0\nret 0\n"+callee)
		all.Code = append(all.Code, c.x)
		text += c.s + "\n"
	}
	all.Code = append(all.Code, api.Ins{})
	is(t, module(all, fn("g", 2, 2)), "widen\nfunc f 6 0\n"+text+"ret 0\n"+callee)
}

// edgesOf is the least and the greatest number that may stand in a field, and some between, in a function of 64 registers and 1024 instructions in a module of 32 functions.
func edgesOf(word string, field rune) []int64 {
	switch {
	case field != 'N':
		return []int64{0, 1, 9, 10, 56, 63}
	case word == "check":
		return []int64{1, 9, 10, 4095, 4096}
	case word == "call":
		return []int64{0, 9, 10, 30, 31}
	case word == "set" || word == "load" || word == "store":
		return []int64{least, least + 1, -4096, -10, -1, 0, 1, 10, 4096, most - 1, most}
	}
	return []int64{0, 9, 10, 1022, 1023}
}

// P10.1, P10.2: the least and the greatest number in each field of each operation, with the text worked out by fmt.
func TestEdges(t *testing.T) {
	for op, o := range operations {
		for _, field := range o.fields {
			for _, n := range edgesOf(o.word, field) {
				x := api.Ins{Op: op}
				if o.word == "check" {
					x.N = 1
				}
				set(&x, field, n)
				numbers := map[rune]int64{'A': int64(x.A), 'B': int64(x.B), 'C': int64(x.C), 'N': x.N}
				s := o.word
				for _, c := range o.fields {
					s += fmt.Sprintf(" %d", numbers[c])
				}
				m := module(named(32)...)
				m.Funcs[0].Regs = 64
				m.Funcs[0].Code = append([]api.Ins{x}, make([]api.Ins, 1023)...)
				text := "widen\nfunc f0 64 0\n" + s + "\n" + strings.Repeat("ret 0\n", 1023)
				for i := range 31 {
					text += fmt.Sprintf("func f%d 1 0\nret 0\n", i+1)
				}
				is(t, m, text)
			}
		}
	}
}

// P10.1, P10.2: thresholds, and what stands on a function's first line, at their ends.
func TestHeads(t *testing.T) {
	is(t, api.Module{Thresholds: []int64{0}}, "widen 0\n")
	is(t, api.Module{Thresholds: []int64{least, most}}, "widen -9223372036854775808 9223372036854775807\n")
	is(t, api.Module{Thresholds: []int64{-10, -9, -1, 0, 1, 9, 10, 100}}, "widen -10 -9 -1 0 1 9 10 100\n")
	is(t, api.Module{Thresholds: rising(16)}, "widen -3 -2 -1 0 1 2 3 4 5 6 7 8 9 10 11 12\n")
	for _, c := range []struct {
		f api.Func
		s string
	}{
		{api.Func{Name: "f", Regs: 1}, "func f 1 0\n"},
		{api.Func{Name: "f", Regs: 64, Words: 4096}, "func f 64 4096\n"},
		{api.Func{Name: "f", Regs: 10, Words: 1}, "func f 10 1\n"},
		{api.Func{Name: "f", Regs: 1, Params: []api.Span{{Lo: least, Hi: most}}}, "func f 1 0 -9223372036854775808 9223372036854775807\n"},
		{api.Func{Name: "f", Regs: 2, Params: []api.Span{{Lo: most, Hi: most}, {Lo: least, Hi: least}}}, "func f 2 0 9223372036854775807 9223372036854775807 -9223372036854775808 -9223372036854775808\n"},
		{api.Func{Name: "f", Regs: 9, Words: 3, Params: []api.Span{{Lo: 1, Hi: 2}, {Lo: 3, Hi: 4}, {Lo: -6, Hi: -5}, {Lo: 0, Hi: 0}, {Lo: 7, Hi: 7}, {Lo: 0, Hi: 8}, {Lo: -9, Hi: 0}, {Lo: 10, Hi: 11}}}, "func f 9 3 1 2 3 4 -6 -5 0 0 7 7 0 8 -9 0 10 11\n"},
		{api.Func{Name: "func", Regs: 1}, "func func 1 0\n"},
		{api.Func{Name: "widen", Regs: 1}, "func widen 1 0\n"},
		{api.Func{Name: "ret", Regs: 1}, "func ret 1 0\n"},
		{api.Func{Name: "a0", Regs: 1}, "func a0 1 0\n"},
		{api.Func{Name: fullName, Regs: 1}, "func aaaaaaaaaaaaaaaa 1 0\n"},
	} {
		c.f.Code = []api.Ins{{}}
		is(t, module(c.f), "widen\n"+c.s+"ret 0\n")
		is(t, api.Module{Thresholds: []int64{5}, Funcs: []api.Func{fn("e", 0, 1), c.f, fn("g", 0, 1)}}, "widen 5\nfunc e 1 0\nret 0\n"+c.s+"ret 0\nfunc g 1 0\nret 0\n")
	}
}

// P10.1, P10.2: a module with as many of everything as may be.
func TestFull(t *testing.T) {
	m := api.Module{Thresholds: rising(16)}
	var text strings.Builder
	text.WriteString("widen -3 -2 -1 0 1 2 3 4 5 6 7 8 9 10 11 12\n")
	for _, f := range named(32) {
		f.Params, f.Regs, f.Words, f.Code = nil, 64, 4096, make([]api.Ins, 1024)
		for range 8 {
			f.Params = append(f.Params, api.Span{Lo: least, Hi: most})
		}
		for i := range 1023 {
			f.Code[i] = api.Ins{Op: api.OpSet, A: 63, N: least + int64(i)}
		}
		m.Funcs = append(m.Funcs, f)
		text.WriteString("func " + f.Name + " 64 4096" + strings.Repeat(" -9223372036854775808 9223372036854775807", 8) + "\n")
		for i := range 1023 {
			fmt.Fprintf(&text, "set 63 %d\n", int64(least)+int64(i))
		}
		text.WriteString("ret 0\n")
	}
	is(t, m, text.String())
}

// faulty are modules of each fault of code.May, on functions as wholes and on instructions of the first and of a later one.
func faulty() []api.Module {
	all := []api.Module{
		{Thresholds: rising(17)}, {Thresholds: []int64{1, 1}}, {Thresholds: []int64{1, 3, 2}},
		module(named(33)...), module(api.Func{}), module(fn("f", 0, 1), fn("f", 0, 1)), module(api.Func{Name: "f", Regs: 1}),
	}
	for number := range 2 {
		put := func(do func(f *api.Func)) {
			m := module(fn("f", 1, 3), fn("g", 1, 3))
			do(&m.Funcs[number])
			all = append(all, m)
		}
		for _, s := range []string{"", "F", "f g", "f\n", " ", "0", fullName + "a", "\xff"} {
			put(func(f *api.Func) { f.Name = s })
		}
		put(func(f *api.Func) { f.Params = make([]api.Span, 9) })
		put(func(f *api.Func) { f.Params[0].Hi = -1 })
		for _, n := range []int{0, 65, -1, least, most} {
			put(func(f *api.Func) { f.Regs = n })
		}
		for _, n := range []int{-1, 4097, least, most} {
			put(func(f *api.Func) { f.Words = n })
		}
		for _, n := range []int{0, 1025} {
			put(func(f *api.Func) { f.Code = make([]api.Ins, n) })
		}
		for _, x := range []api.Ins{{Op: 20}, {Op: -1}, {Op: least}, {Op: most}, {B: 1}, {C: -1}, {N: 1}, {A: 3}, {A: -1}, {A: most}, {Op: api.OpMove, B: 3}, {Op: api.OpAdd, C: 3}, {Op: api.OpJump, N: 3}, {Op: api.OpStep, N: -1}, {Op: api.OpCheck}, {Op: api.OpCheck, N: 4097}, {Op: api.OpCall, N: 2}, {Op: api.OpCall, N: most}, {Op: api.OpJump, A: 1}} {
			put(func(f *api.Func) { f.Code = []api.Ins{{}, x, {}} })
		}
		put(func(f *api.Func) { f.Code = []api.Ins{{}, {Op: api.OpSet}} })
	}
	return all
}

// P10.1: of a module that may not be the fault of code.May, and no text.
func TestNoText(t *testing.T) {
	told := map[api.Errno]int{}
	for _, m := range faulty() {
		want := code.May(m)
		if want.E == api.OK {
			t.Errorf("%v may be", m)
		}
		told[want.E]++
		if s, f := asm.Print(m); s != "" || f != want {
			t.Errorf("Print(%.200v): %.200q, %v; not %v", m, s, f, want)
		}
	}
	for _, e := range []api.Errno{api.ErrMany, api.ErrName, api.ErrTwice, api.ErrRange, api.ErrEmpty, api.ErrOp, api.ErrReg, api.ErrUnused, api.ErrJump, api.ErrFall, api.ErrCall, api.ErrOrder, api.ErrRegs, api.ErrWords, api.ErrCode} {
		if told[e] == 0 {
			t.Errorf("the error %d was not met", e)
		}
	}
	for m, want := range map[*api.Module]api.Fault{
		{Funcs: []api.Func{{Name: "f", Regs: 1}}}:          {E: api.ErrCode},
		{Thresholds: rising(17)}:                           {E: api.ErrMany, At: 16},
		{Thresholds: []int64{1, 3, 2}}:                     {E: api.ErrOrder, At: 2},
		{Funcs: named(33)}:                                 {E: api.ErrMany, Func: 32},
		{Funcs: []api.Func{fn("f", 0, 1), fn("g", 9, 64)}}: {E: api.ErrMany, Func: 1, At: 8},
		{Funcs: []api.Func{fn("f", 0, 1), fn("g", 0, 1, api.Ins{}, api.Ins{Op: api.OpSet, A: 1})}}:      {E: api.ErrReg, Func: 1, At: 1},
		{Funcs: []api.Func{fn("f", 0, 1), fn("g", 0, 1, api.Ins{}, api.Ins{}, api.Ins{Op: api.OpSet})}}: {},
	} {
		if s, f := asm.Print(*m); f != want || (s == "") != (want.E != api.OK) {
			t.Errorf("Print(%.200v): %.200q, %v; not %v", *m, s, f, want)
		}
	}
}
