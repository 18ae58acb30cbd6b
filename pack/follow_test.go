package pack_test

import (
	"fmt"
	"math/rand/v2"
	"strings"
	"testing"

	"soffit/api"
	"soffit/code"
	"soffit/pack"
)

// taken holds bytes that can be read to their module, and that to the fault for which it may not be.
func taken(t *testing.T, b []byte, m api.Module, want api.Errno) {
	t.Helper()
	reads(t, b, m)
	if f := code.May(m); f.E != want || want == api.OK {
		t.Errorf("May(%.300v): %v, not %d", m, f, want)
	}
	there(t, m, b)
}

// P11.2: modules that can be read but may not be, by hand.
func TestReadAlone(t *testing.T) {
	ret := []api.Ins{{}}
	for _, c := range []struct {
		s string
		f api.Func
		e api.Errno
	}{
		{"00 | 00 01 0000 0100" + retBytes, api.Func{Regs: 1, Code: ret}, api.ErrName},
		{"01 46 | 00 01 0000 0100" + retBytes, api.Func{Name: "F", Regs: 1, Code: ret}, api.ErrName},
		{"01 00 | 00 01 0000 0100" + retBytes, api.Func{Name: "\x00", Regs: 1, Code: ret}, api.ErrName},
		{"03 66ff0a | 00 01 0000 0100" + retBytes, api.Func{Name: "f\xff\n", Regs: 1, Code: ret}, api.ErrName},
		{"10 " + strings.Repeat("c3", 16) + "| 00 01 0000 0100" + retBytes, api.Func{Name: strings.Repeat("\xc3", 16), Regs: 1, Code: ret}, api.ErrName},
		{"01 66 | 00 00 0000 0100" + retBytes, api.Func{Name: "f", Code: ret}, api.ErrRegs},
		{"01 66 | 00 41 0000 0100" + retBytes, api.Func{Name: "f", Regs: 65, Code: ret}, api.ErrRegs},
		{"01 66 | 00 80 0000 0100" + retBytes, api.Func{Name: "f", Regs: 128, Code: ret}, api.ErrRegs},
		{"01 66 | 00 ff 0000 0100" + retBytes, api.Func{Name: "f", Regs: 255, Code: ret}, api.ErrRegs},
		{"01 66 | 01" + zeroWord + lessWord + "01 0000 0100" + retBytes, api.Func{Name: "f", Params: []api.Span{{Lo: 0, Hi: -1}}, Regs: 1, Code: ret}, api.ErrEmpty},
		{"01 66 | 01" + mostWord + leastWord + "01 0000 0100" + retBytes, api.Func{Name: "f", Params: []api.Span{{Lo: most, Hi: least}}, Regs: 1, Code: ret}, api.ErrEmpty},
		{"01 66 | 00 01 0110 0100" + retBytes, api.Func{Name: "f", Regs: 1, Words: 4097, Code: ret}, api.ErrWords},
		{"01 66 | 00 01 0080 0100" + retBytes, api.Func{Name: "f", Regs: 1, Words: 32768, Code: ret}, api.ErrWords},
		{"01 66 | 00 01 ffff 0100" + retBytes, api.Func{Name: "f", Regs: 1, Words: 65535, Code: ret}, api.ErrWords},
		{"01 66 | 00 01 0000 0000", api.Func{Name: "f", Regs: 1}, api.ErrCode},
		{"00 | 00 00 0000 0000", api.Func{}, api.ErrName},
		{"01 66 | 00 01 0000 0100 00 01 00 00" + zeroWord, api.Func{Name: "f", Regs: 1, Code: []api.Ins{{A: 1}}}, api.ErrReg},
		{"01 66 | 00 01 0000 0100 00 ff 00 00" + zeroWord, api.Func{Name: "f", Regs: 1, Code: []api.Ins{{A: 255}}}, api.ErrReg},
		{"01 66 | 00 01 0000 0100 00 00 01 00" + zeroWord, api.Func{Name: "f", Regs: 1, Code: []api.Ins{{B: 1}}}, api.ErrUnused},
		{"01 66 | 00 01 0000 0100 00 00 00 80" + zeroWord, api.Func{Name: "f", Regs: 1, Code: []api.Ins{{C: 128}}}, api.ErrUnused},
		{"01 66 | 00 01 0000 0100 00 00 00 00" + leastWord, api.Func{Name: "f", Regs: 1, Code: []api.Ins{{N: least}}}, api.ErrUnused},
		{"01 66 | 00 01 0000 0100 14 00 00 00" + zeroWord, api.Func{Name: "f", Regs: 1, Code: []api.Ins{{Op: 20}}}, api.ErrOp},
		{"01 66 | 00 01 0000 0100 ff fe fd fc" + lessWord, api.Func{Name: "f", Regs: 1, Code: []api.Ins{{Op: 255, A: 254, B: 253, C: 252, N: -1}}}, api.ErrOp},
		{"01 66 | 00 01 0000 0100 0e 00 00 00" + lessWord, api.Func{Name: "f", Regs: 1, Code: []api.Ins{{Op: api.OpJump, N: -1}}}, api.ErrJump},
		{"01 66 | 00 01 0000 0100 01 00 00 00" + mostWord, api.Func{Name: "f", Regs: 1, Code: []api.Ins{{Op: api.OpSet, N: most}}}, api.ErrFall},
		{"01 66 | 00 01 0000 0200 13 00 00 00" + mostWord + retBytes, api.Func{Name: "f", Regs: 1, Code: []api.Ins{{Op: api.OpCall, N: most}, {}}}, api.ErrCall},
		{"01 66 | 00 01 0000 0200 0d 00 00 00" + zeroWord + retBytes, api.Func{Name: "f", Regs: 1, Code: []api.Ins{{Op: api.OpCheck}, {}}}, api.ErrRange},
	} {
		taken(t, row(begin, "0001", c.s), module(c.f), c.e)
	}
	taken(t, row(begin, "02", zeroWord, zeroWord, "00"), api.Module{Thresholds: []int64{0, 0}}, api.ErrOrder)
	taken(t, row(begin, "02", mostWord, leastWord, "00"), api.Module{Thresholds: []int64{most, least}}, api.ErrOrder)
	taken(t, row(begin, "0002", strings.Repeat("01 66 | 00 01 0000 0100"+retBytes, 2)), module(fn("f", 0, 1), fn("f", 0, 1)), api.ErrTwice)
	taken(t, row(begin, "0020", strings.Repeat("00000000000000", 32)), module(make([]api.Func, 32)...), api.ErrName)
}

// P11.2: every byte in each place of one byte of an instruction, and as Regs, is read as the number that it is.
func TestEveryByte(t *testing.T) {
	for c := range 256 {
		s := fmt.Sprintf("%02x", c)
		head := "0001 0166 00 01 0000 0100"
		for i, x := range []api.Ins{{Op: c}, {A: c}, {B: c}, {C: c}} {
			reads(t, row(begin, head, strings.Repeat("00", i), s, strings.Repeat("00", 11-i)), module(api.Func{Name: "f", Regs: 1, Code: []api.Ins{x}}))
		}
		reads(t, row(begin, "0001 0166 00", s, "0000 0100", retBytes), module(api.Func{Name: "f", Regs: c, Code: []api.Ins{{}}}))
		reads(t, row(begin, "0001 01", s, "00 01 0000 0100", retBytes), module(api.Func{Name: string([]byte{byte(c)}), Regs: 1, Code: []api.Ins{{}}}))
		for i := range 8 {
			n := int64(uint64(c) << (8 * i))
			word := strings.Repeat("00", i) + s + strings.Repeat("00", 7-i)
			reads(t, row(begin, "01", word, "00"), api.Module{Thresholds: []int64{n}})
			reads(t, row(begin, head, "00000000", word), module(api.Func{Name: "f", Regs: 1, Code: []api.Ins{{N: n}}}))
			reads(t, row(begin, "0001 0166 02", word, zeroWord, zeroWord, word, "01 0000 0000"), module(api.Func{Name: "f", Regs: 1, Params: []api.Span{{Lo: n}, {Hi: n}}}))
		}
	}
	for n := range 65536 {
		reads(t, row(begin, "0001 0166 00 01", fmt.Sprintf("%02x%02x", n&255, n>>8), "0000"), module(api.Func{Name: "f", Regs: 1, Words: n}))
	}
}

// P11.2: modules of the faults of code.May whose numbers have room are read as they are.
func TestFaultyRead(t *testing.T) {
	fits := func(n, most int) bool { return 0 <= n && n <= most }
	count := 0
	for _, m := range faulty() {
		room := len(m.Thresholds) <= 16 && len(m.Funcs) <= 32
		for _, f := range m.Funcs {
			room = room && len(f.Name) <= 16 && len(f.Params) <= 8 && fits(f.Regs, 255) && fits(f.Words, 65535) && len(f.Code) <= 1024
			for _, x := range f.Code {
				room = room && fits(x.Op, 255) && fits(x.A, 255) && fits(x.B, 255) && fits(x.C, 255)
			}
		}
		if room {
			taken(t, bytesOf(m), m, code.May(m).E)
			count++
		}
	}
	if count < 50 {
		t.Errorf("%d modules only", count)
	}
}

// P11.3: the first bytes of a module's, fewer than all, are too short, at their end.
func TestPrefixes(t *testing.T) {
	k := maker{rand.New(rand.NewPCG(11, 4))}
	list := []api.Module{{}, module(named(32)...), {Thresholds: rising(16)}}
	for range 100 {
		list = append(list, k.module())
	}
	for _, m := range list {
		b, f := pack.Encode(m)
		if f != (api.Fault{}) {
			t.Fatalf("Encode(%v): %v", m, f)
		}
		for n := range len(b) {
			wrong(t, b[:n], api.ErrShort, n)
		}
	}
	// All places of the longest one would take too long.
	b, _ := pack.Encode(full())
	for n := range len(b) {
		if n < 14000 || n%1500 == 0 || n > len(b)-40 {
			wrong(t, b[:n], api.ErrShort, n)
		}
	}
}
