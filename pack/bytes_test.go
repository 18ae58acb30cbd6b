package pack_test

import (
	"bytes"
	"encoding/hex"
	"fmt"
	"strings"
	"testing"

	"soffit/api"
	"soffit/code"
	"soffit/pack"
)

// operations are the fields of each operation of the document's table, in order.
var operations = []string{"A", "AN", "AB", "ABC", "ABC", "ABC", "ABC", "ABC", "ABC", "ABC", "AB", "ABN", "ABN", "AN", "N", "AN", "AN", "ABN", "AN", "ABN"}

// set puts a number into a field.
func set(x *api.Ins, field rune, n int64) {
	switch field {
	case 'A':
		x.A = int(n)
	case 'B':
		x.B = int(n)
	case 'C':
		x.C = int(n)
	case 'N':
		x.N = n
	}
}

// P11.1, P11.2: an instruction of each operation by hand, with other numbers in all its fields.
func TestInstructions(t *testing.T) {
	list := []struct {
		s string
		x api.Ins
	}{
		{"00 05 00 00 00 00 00 00 00 00 00 00", api.Ins{Op: api.OpRet, A: 5}},
		{"01 05 00 00 06 01 00 00 00 00 00 00", api.Ins{Op: api.OpSet, A: 5, N: 262}},
		{"02 05 04 00 00 00 00 00 00 00 00 00", api.Ins{Op: api.OpMove, A: 5, B: 4}},
		{"03 05 04 03 00 00 00 00 00 00 00 00", api.Ins{Op: api.OpAdd, A: 5, B: 4, C: 3}},
		{"04 05 04 03 00 00 00 00 00 00 00 00", api.Ins{Op: api.OpSub, A: 5, B: 4, C: 3}},
		{"05 05 04 03 00 00 00 00 00 00 00 00", api.Ins{Op: api.OpMul, A: 5, B: 4, C: 3}},
		{"06 05 04 03 00 00 00 00 00 00 00 00", api.Ins{Op: api.OpDiv, A: 5, B: 4, C: 3}},
		{"07 05 04 03 00 00 00 00 00 00 00 00", api.Ins{Op: api.OpRem, A: 5, B: 4, C: 3}},
		{"08 05 04 03 00 00 00 00 00 00 00 00", api.Ins{Op: api.OpLess, A: 5, B: 4, C: 3}},
		{"09 05 04 03 00 00 00 00 00 00 00 00", api.Ins{Op: api.OpEqual, A: 5, B: 4, C: 3}},
		{"0a 05 04 00 00 00 00 00 00 00 00 00", api.Ins{Op: api.OpNot, A: 5, B: 4}},
		{"0b 05 04 00 f9 ff ff ff ff ff ff ff", api.Ins{Op: api.OpLoad, A: 5, B: 4, N: -7}},
		{"0c 05 04 00 88 77 66 55 44 33 22 11", api.Ins{Op: api.OpStore, A: 5, B: 4, N: 0x1122334455667788}},
		{"0d 05 00 00 00 10 00 00 00 00 00 00", api.Ins{Op: api.OpCheck, A: 5, N: 4096}},
		{"0e 00 00 00 02 00 00 00 00 00 00 00", api.Ins{Op: api.OpJump, N: 2}},
		{"0f 05 00 00 02 00 00 00 00 00 00 00", api.Ins{Op: api.OpIf, A: 5, N: 2}},
		{"10 05 00 00 02 00 00 00 00 00 00 00", api.Ins{Op: api.OpUnless, A: 5, N: 2}},
		{"11 05 04 00 02 00 00 00 00 00 00 00", api.Ins{Op: api.OpCount, A: 5, B: 4, N: 2}},
		{"12 05 00 00 02 00 00 00 00 00 00 00", api.Ins{Op: api.OpStep, A: 5, N: 2}},
		{"13 05 04 00 01 00 00 00 00 00 00 00", api.Ins{Op: api.OpCall, A: 5, B: 4, N: 1}},
	}
	if len(list) != 20 || len(operations) != 20 {
		t.Fatal("the test's own list")
	}
	callee := "01 67 | 02" + strings.Repeat(zeroWord, 4) + "02 0000 0100" + retBytes
	all, text := api.Func{Name: "f", Regs: 6}, ""
	for op, c := range list {
		if c.x.Op != op {
			t.Fatal("the test's own list")
		}
		is(t, module(fn("f", 0, 6, c.x, api.Ins{}), fn("g", 2, 2)), row(begin, "00 02 | 01 66 | 00 06 0000 0300", c.s, retBytes, retBytes, callee))
		all.Code = append(all.Code, c.x)
		text += c.s
	}
	all.Code = append(all.Code, api.Ins{})
	is(t, module(all, fn("g", 2, 2)), row(begin, "00 02 | 01 66 | 00 06 0000 1500", text, retBytes, callee))
}

// wordOf is a number's eight bytes in hexadecimal, turned round as texts.
func wordOf(n int64) string {
	s, out := fmt.Sprintf("%016x", uint64(n)), ""
	for ; s != ""; s = s[:len(s)-2] {
		out += s[len(s)-2:]
	}
	return out
}

// edgesOf is the least and the greatest number that may stand in a field, and some between, in a function of 64 registers and 1024 instructions in a module of 32 functions.
func edgesOf(op int, field rune) []int64 {
	switch {
	case field != 'N':
		return []int64{0, 1, 2, 62, 63}
	case op == api.OpCheck:
		return []int64{1, 255, 256, 257, 4095, 4096}
	case op == api.OpCall:
		return []int64{0, 1, 30, 31}
	case op == api.OpSet || op == api.OpLoad || op == api.OpStore:
		return []int64{least, least + 1, -1 << 32, -65537, -257, -256, -255, -1, 0, 1, 127, 128, 255, 256, 65535, 65536, 1<<32 - 1, 1 << 32, most - 1, most}
	}
	return []int64{0, 1, 255, 256, 1022, 1023}
}

// P11.1, P11.2: the least and the greatest number in each field of each operation.
func TestEdges(t *testing.T) {
	m := module(named(32)...)
	m.Funcs[0].Regs = 64
	head := row(begin, "00 20 | 02 6630 | 00 40 0000 0004")
	rest := bytesOf(module(m.Funcs[1:]...))[6:]
	for op, fields := range operations {
		for _, field := range fields {
			for _, n := range edgesOf(op, field) {
				x := api.Ins{Op: op}
				if op == api.OpCheck {
					x.N = 1
				}
				set(&x, field, n)
				m.Funcs[0].Code = append([]api.Ins{x}, make([]api.Ins, 1023)...)
				text := fmt.Sprintf("%02x%02x%02x%02x", x.Op, x.A, x.B, x.C) + wordOf(x.N)
				is(t, m, bytes.Join([][]byte{head, row(text), make([]byte, 1023*12), rest}, nil))
			}
		}
	}
}

// P11.1, P11.2: 0, 1 and 16 thresholds, and any between.
func TestThresholds(t *testing.T) {
	is(t, api.Module{}, row(begin, "00 00"))
	is(t, api.Module{Thresholds: []int64{}, Funcs: []api.Func{}}, row(begin, "00 00"))
	is(t, api.Module{Thresholds: []int64{0}}, row(begin, "01", zeroWord, "00"))
	is(t, api.Module{Thresholds: []int64{least, -1, most}}, row(begin, "03", leastWord, lessWord, mostWord, "00"))
	is(t, api.Module{Thresholds: []int64{0x0102030405060708}}, row(begin, "01 0807060504030201 00"))
	for n := range 17 {
		text := ""
		for _, k := range rising(n) {
			text += wordOf(k)
		}
		is(t, api.Module{Thresholds: rising(n)}, row(begin, fmt.Sprintf("%02x", n), text, "00"))
		is(t, api.Module{Thresholds: rising(n), Funcs: named(1)}, row(begin, fmt.Sprintf("%02x", n), text, "01 | 02 6630 | 00 01 0000 0100", retBytes))
	}
}

// P11.1, P11.2: what a function has ahead of its instructions, at its ends: alone, and between two others.
func TestHeads(t *testing.T) {
	for _, c := range []struct {
		f api.Func
		s string
	}{
		{api.Func{Name: "f", Regs: 1}, "01 66 | 00 | 01 | 00 00"},
		{api.Func{Name: "f", Regs: 64}, "01 66 | 00 | 40 | 00 00"},
		{api.Func{Name: "f", Regs: 7, Words: 1}, "01 66 | 00 | 07 | 01 00"},
		{api.Func{Name: "f", Regs: 7, Words: 254}, "01 66 | 00 | 07 | fe 00"},
		{api.Func{Name: "f", Regs: 7, Words: 255}, "01 66 | 00 | 07 | ff 00"},
		{api.Func{Name: "f", Regs: 7, Words: 256}, "01 66 | 00 | 07 | 00 01"},
		{api.Func{Name: "f", Regs: 7, Words: 257}, "01 66 | 00 | 07 | 01 01"},
		{api.Func{Name: "f", Regs: 7, Words: 0xabc}, "01 66 | 00 | 07 | bc 0a"},
		{api.Func{Name: "f", Regs: 7, Words: 4095}, "01 66 | 00 | 07 | ff 0f"},
		{api.Func{Name: "f", Regs: 7, Words: 4096}, "01 66 | 00 | 07 | 00 10"},
		{api.Func{Name: "a0z9", Regs: 1}, "04 61307a39 | 00 | 01 | 00 00"},
		{api.Func{Name: fullName, Regs: 1}, "10" + strings.Repeat("61", 16) + "00 | 01 | 00 00"},
		{api.Func{Name: "abcdefghijklmno", Regs: 1}, "0f 6162636465666768696a6b6c6d6e6f | 00 | 01 | 00 00"},
		{api.Func{Name: "f", Regs: 1, Params: []api.Span{{Lo: least, Hi: most}}}, "01 66 | 01" + leastWord + mostWord + "| 01 | 00 00"},
		{api.Func{Name: "f", Regs: 2, Params: []api.Span{{Lo: most, Hi: most}, {Lo: least, Hi: least}}}, "01 66 | 02" + mostWord + mostWord + leastWord + leastWord + "| 02 | 00 00"},
		{api.Func{Name: "f", Regs: 2, Params: []api.Span{{Lo: -1, Hi: 0}, {Lo: 256, Hi: 513}}}, "01 66 | 02" + lessWord + zeroWord + "0001000000000000 0102000000000000 | 02 | 00 00"},
		{api.Func{Name: "f", Regs: 9, Words: 3, Params: make([]api.Span, 8)}, "01 66 | 08" + strings.Repeat(zeroWord, 16) + "| 09 | 03 00"},
	} {
		c.f.Code = []api.Ins{{}}
		is(t, module(c.f), row(begin, "00 01", c.s, "0100", retBytes))
		other := "| 01 %s | 00 01 0000 0100" + retBytes
		is(t, api.Module{Thresholds: []int64{5}, Funcs: []api.Func{fn("e", 0, 1), c.f, fn("g", 0, 1)}}, row(begin, "01", wordOf(5), "03", fmt.Sprintf(other, "65"), c.s, "0100", retBytes, fmt.Sprintf(other, "67")))
	}
}

// P11.1, P11.2: from no function to 32, and 1 to 1024 instructions, told by a short.
func TestCounts(t *testing.T) {
	for n := range 33 {
		text := ""
		for i := range n {
			name := fmt.Sprint("f", i)
			text += fmt.Sprintf("%02x", len(name)) + hex.EncodeToString([]byte(name)) + "00 01 0000 0100" + retBytes
		}
		is(t, module(named(n)...), row(begin, "00", fmt.Sprintf("%02x", n), text))
	}
	for n, s := range map[int]string{1: "0100", 2: "0200", 127: "7f00", 128: "8000", 255: "ff00", 256: "0001", 257: "0101", 511: "ff01", 768: "0003", 1023: "ff03", 1024: "0004"} {
		f := api.Func{Name: "f", Regs: 1, Code: make([]api.Ins, n)}
		is(t, module(f), row(begin, "00 01 | 01 66 | 00 01 0000", s, strings.Repeat(retBytes, n)))
	}
}

// full is a module with as many of everything as may be, and the greatest numbers.
func full() api.Module {
	m := api.Module{Thresholds: rising(16)}
	for i := range 32 {
		f := api.Func{Name: fmt.Sprintf("abcdefghijklmn%02d", i), Regs: 64, Words: 4096, Code: make([]api.Ins, 1024)}
		for k := range 8 {
			f.Params = append(f.Params, api.Span{Lo: least + int64(k), Hi: most - int64(i)})
		}
		for k := range 1023 {
			f.Code[k] = api.Ins{Op: api.OpSet, A: k % 64, N: least + int64(i)<<40 + int64(k)}
		}
		f.Code[1023] = api.Ins{Op: api.OpRet, A: 63}
		m.Funcs = append(m.Funcs, f)
	}
	return m
}

// P11.1, P11.2: the longest module that may be has 398182 bytes: 4, 1 and 16 words, 1, and 32 times 17, 1 and 16 words, 1, 2, 2 and 1024 times 12.
func TestFull(t *testing.T) {
	m := full()
	b := bytesOf(m)
	if want := 4 + 1 + 16*8 + 1 + 32*(17+1+16*8+1+2+2+1024*12); want != 398182 || len(b) != want {
		t.Fatalf("%d bytes", len(b))
	}
	is(t, m, b)
}

// faulty are modules of each fault of code.May, on functions as wholes and on instructions of the first and of a later one.
func faulty() []api.Module {
	all := []api.Module{
		{Thresholds: rising(17)}, {Thresholds: rising(300)}, {Thresholds: []int64{1, 1}}, {Thresholds: []int64{1, 3, 2}},
		module(named(33)...), module(named(300)...), module(api.Func{}), module(fn("f", 0, 1), fn("f", 0, 1)), module(api.Func{Name: "f", Regs: 1}),
	}
	for number := range 2 {
		put := func(do func(f *api.Func)) {
			m := module(fn("f", 1, 3), fn("g", 1, 3))
			do(&m.Funcs[number])
			all = append(all, m)
		}
		for _, s := range []string{"", "F", "f g", "f\n", " ", "0", fullName + "a", "\xff", strings.Repeat("a", 256+3)} {
			put(func(f *api.Func) { f.Name = s })
		}
		for _, n := range []int{9, 256 + 3} {
			put(func(f *api.Func) { f.Params = make([]api.Span, n) })
		}
		put(func(f *api.Func) { f.Params[0].Hi = -1 })
		for _, n := range []int{0, 65, 255, 256, 256 + 3, -1, least, most} {
			put(func(f *api.Func) { f.Regs = n })
		}
		for _, n := range []int{-1, 4097, 65535, 65536, least, most} {
			put(func(f *api.Func) { f.Words = n })
		}
		for _, n := range []int{0, 1025, 65536 + 3} {
			put(func(f *api.Func) { f.Code = make([]api.Ins, n) })
		}
		for _, x := range []api.Ins{{Op: 20}, {Op: 256}, {Op: -1}, {Op: least}, {Op: most}, {B: 1}, {C: -1}, {C: 256}, {N: 1}, {A: 3}, {A: 256}, {A: -1}, {A: most}, {Op: api.OpMove, B: 3}, {Op: api.OpMove, B: 256}, {Op: api.OpAdd, C: 3}, {Op: api.OpAdd, C: 256}, {Op: api.OpJump, N: 3}, {Op: api.OpStep, N: -1}, {Op: api.OpCheck}, {Op: api.OpCheck, N: 4097}, {Op: api.OpCall, N: 2}, {Op: api.OpCall, N: most}, {Op: api.OpJump, A: 1}} {
			put(func(f *api.Func) { f.Code = []api.Ins{{}, x, {}} })
		}
		put(func(f *api.Func) { f.Code = []api.Ins{{}, {Op: api.OpSet}} })
	}
	return all
}

// P11.1: of a module that may not be the fault of code.May, and no bytes.
func TestNoBytes(t *testing.T) {
	told := map[api.Errno]int{}
	for _, m := range faulty() {
		want := code.May(m)
		if want.E == api.OK {
			t.Errorf("%v may be", m)
		}
		told[want.E]++
		if b, f := pack.Encode(m); len(b) != 0 || f != want {
			t.Errorf("Encode(%.200v): %x, %v; not %v", m, short(b), f, want)
		}
	}
	for _, e := range []api.Errno{api.ErrMany, api.ErrName, api.ErrTwice, api.ErrRange, api.ErrEmpty, api.ErrOp, api.ErrReg, api.ErrUnused, api.ErrJump, api.ErrFall, api.ErrCall, api.ErrOrder, api.ErrRegs, api.ErrWords, api.ErrCode} {
		if told[e] == 0 {
			t.Errorf("the error %d was not met", e)
		}
	}
	for _, c := range []struct {
		m    api.Module
		want api.Fault
	}{
		{module(api.Func{Name: "f", Regs: 1}), api.Fault{E: api.ErrCode}},
		{api.Module{Thresholds: rising(17)}, api.Fault{E: api.ErrMany, At: 16}},
		{api.Module{Thresholds: []int64{1, 3, 2}}, api.Fault{E: api.ErrOrder, At: 2}},
		{module(named(33)...), api.Fault{E: api.ErrMany, Func: 32}},
		{module(fn("f", 0, 1), fn("g", 9, 64)), api.Fault{E: api.ErrMany, Func: 1, At: 8}},
		{module(fn("f", 0, 1), fn("g", 0, 1, api.Ins{}, api.Ins{Op: api.OpSet, A: 1})), api.Fault{E: api.ErrReg, Func: 1, At: 1}},
	} {
		if b, f := pack.Encode(c.m); f != c.want || len(b) != 0 {
			t.Errorf("Encode(%.200v): %x, %v; not %v", c.m, short(b), f, c.want)
		}
	}
}
