package asm_test

import (
	"strings"
	"testing"

	"soffit/api"
	"soffit/asm"
	"soffit/code"
)

const (
	least = -1 << 63
	most  = 1<<63 - 1
)

// ends puts ends of lines in place of the signs that stand for them.
func ends(s string) string { return strings.ReplaceAll(s, ".", "\n") }

func module(funcs ...api.Func) api.Module { return api.Module{Funcs: funcs} }

func empty(m api.Module) bool { return len(m.Thresholds) == 0 && len(m.Funcs) == 0 }

// is holds a module and a text against each other, both ways (P10.1 to P10.3).
func is(t *testing.T, m api.Module, s string) {
	t.Helper()
	if got, f := asm.Print(m); got != s || f != (api.Fault{}) {
		t.Errorf("Print(%.300v): %.300q, %v; not %.300q", m, got, f, s)
	}
	if got, e, line, at := asm.Parse(s); !code.Same(got, m) || e != api.OK || line != 0 || at != 0 {
		t.Errorf("Parse(%.300q): %.300v, %d at %d, %d; not %.300v", s, got, e, line, at, m)
	}
}

// back holds a text that can be read to what is printed of it.
func back(t *testing.T, s string) {
	t.Helper()
	m, e, line, at := asm.Parse(s)
	if e != api.OK || line != 0 || at != 0 {
		t.Errorf("Parse(%.300q): %d at %d, %d", s, e, line, at)
		return
	}
	is(t, m, s)
}

// wrong holds a text that can't be read against what is wrong with it.
func wrong(t *testing.T, s string, want api.Errno, line, at int) {
	t.Helper()
	if m, e, l, a := asm.Parse(s); e != want || l != line || a != at || !empty(m) {
		t.Errorf("Parse(%.300q): %.300v, %d at %d, %d; not %d at %d, %d", s, m, e, l, a, want, line, at)
	}
}

// The chapter's examples.
func TestExamples(t *testing.T) {
	f := api.Func{Name: "f", Regs: 2, Words: 3, Params: []api.Span{{Lo: 0, Hi: 9}}, Code: []api.Ins{{Op: api.OpSet, A: 1, N: -5}, {Op: api.OpAdd, A: 1, B: 0, C: 1}, {Op: api.OpRet, A: 1}}}
	is(t, module(f), ends("widen.func f 2 3 0 9.set 1 -5.add 1 0 1.ret 1."))
	is(t, api.Module{}, ends("widen."))
	is(t, api.Module{Thresholds: []int64{-3, 7}}, ends("widen -3 7."))
	for _, c := range []struct {
		s        string
		e        api.Errno
		line, at int
	}{
		{"", api.ErrForm, 1, 0},
		{"wide.", api.ErrForm, 1, 0},
		{"widen.ret 0.", api.ErrForm, 2, 0},
		{"widen.func f 1 0.nop.", api.ErrOp, 3, 0},
		{"widen", api.ErrShort, 1, 5},
		{"widen .", api.ErrNumber, 1, 6},
		{"widen 07.", api.ErrNumber, 1, 6},
		{"widen 3  4.", api.ErrNumber, 1, 8},
		{"widen 4 3.", api.ErrOrder, 1, 0},
		{"widen.func f 1 0 4.", api.ErrShort, 2, 12},
		{"widen.func f 1 0.ret.", api.ErrShort, 3, 3},
		{"widen.func f 1 0.ret 0 0.", api.ErrRest, 3, 5},
		{"widen.func f 1 0.set 0 9223372036854775808.", api.ErrNumber, 3, 6},
		{"widen.func f 1 0.ret 1.", api.ErrReg, 3, 0},
		{"widen.func F 1 0.ret 0.", api.ErrName, 2, 0},
		{"widen.func f 1 0.", api.ErrCode, 2, 0},
	} {
		wrong(t, ends(c.s), c.e, c.line, c.at)
	}
}

// P10.2: the empty text, lines that are empty at each place, and texts whose last line isn't ended.
func TestLines(t *testing.T) {
	for _, c := range []struct {
		s        string
		e        api.Errno
		line, at int
	}{
		{".", api.ErrForm, 1, 0},
		{"..", api.ErrForm, 1, 0},
		{".widen.", api.ErrForm, 1, 0},
		{".widen.func f 1 0.ret 0.", api.ErrForm, 1, 0},
		{"..widen.", api.ErrForm, 1, 0},
		{"widen..", api.ErrForm, 2, 0},
		{"widen...", api.ErrForm, 2, 0},
		{"widen..func f 1 0.ret 0.", api.ErrForm, 2, 0},
		{"widen.func f 1 0..ret 0.", api.ErrOp, 3, 0},
		{"widen.func f 1 0..", api.ErrOp, 3, 0},
		{"widen.func f 1 0.ret 0..", api.ErrOp, 4, 0},
		{"widen.func f 1 0.ret 0...", api.ErrOp, 4, 0},
		{"widen.func f 1 0.ret 0..ret 0.", api.ErrOp, 4, 0},
		{"widen.func f 1 0.ret 0..func g 1 0.ret 0.", api.ErrOp, 4, 0},
		{"widen.func f 1 0.ret 0.func g 1 0.ret 0..", api.ErrOp, 6, 0},
		{"widen 1 2", api.ErrShort, 1, 9},
		{"widen -12", api.ErrShort, 1, 9},
		{"widen.func f 1 0", api.ErrShort, 2, 10},
		{"widen.func f 1 0 3 4", api.ErrShort, 2, 14},
		{"widen.func f 1 0.ret 0", api.ErrShort, 3, 5},
		{"widen.func f 1 0.ret 0.add 0 0 0", api.ErrShort, 4, 9},
		{"widen.func f 1 0.ret 0.func g 10 0", api.ErrShort, 4, 11},
		// What stands to the left of the missing end goes ahead of it.
		{"w", api.ErrForm, 1, 0},
		{"widen\r", api.ErrForm, 1, 0},
		{"widen ", api.ErrNumber, 1, 6},
		{"widen 1 ", api.ErrNumber, 1, 8},
		{"widen 01", api.ErrNumber, 1, 6},
		{"widen.f", api.ErrForm, 2, 0},
		{"widen.func", api.ErrShort, 2, 4},
		{"widen.func ", api.ErrShort, 2, 5},
		{"widen.func f", api.ErrShort, 2, 6},
		{"widen.func f ", api.ErrNumber, 2, 7},
		{"widen.func f 1 0 3", api.ErrShort, 2, 12},
		{"widen.func f 1 0.r", api.ErrOp, 3, 0},
		{"widen.func f 1 0.ret", api.ErrShort, 3, 3},
		{"widen.func f 1 0.ret ", api.ErrNumber, 3, 4},
		{"widen.func f 1 0.ret 0 ", api.ErrRest, 3, 5},
		{"widen.func f 1 0.ret 0 0", api.ErrRest, 3, 5},
		// And the missing end goes ahead of what code.May tells.
		{"widen 2 1", api.ErrShort, 1, 9},
		{"widen.func F 1 0", api.ErrShort, 2, 10},
		{"widen.func f 1 0.ret 7", api.ErrShort, 3, 5},
		{"widen 2 1.func F 0 -1 3 2.ret 7", api.ErrShort, 3, 5},
	} {
		wrong(t, ends(c.s), c.e, c.line, c.at)
	}
}

// P10.2: blanks where there is one too many, at a line's beginning, within it and at its end.
func TestBlanks(t *testing.T) {
	for _, c := range []struct {
		s        string
		e        api.Errno
		line, at int
	}{
		{" .", api.ErrForm, 1, 0},
		{" widen.", api.ErrForm, 1, 0},
		{"  widen.", api.ErrForm, 1, 0},
		{"wid en.", api.ErrForm, 1, 0},
		{"widen  1.", api.ErrNumber, 1, 6},
		{"widen  .", api.ErrNumber, 1, 6},
		{"widen 1 .", api.ErrNumber, 1, 8},
		{"widen 1  2.", api.ErrNumber, 1, 8},
		{"widen 1 2  3.", api.ErrNumber, 1, 10},
		{"widen. func f 1 0.ret 0.", api.ErrForm, 2, 0},
		{"widen.func  1 0.ret 0.", api.ErrName, 2, 0},
		{"widen.func  f 1 0.ret 0.", api.ErrNumber, 2, 6},
		{"widen.func f  1 0.ret 0.", api.ErrNumber, 2, 7},
		{"widen.func f 1  0.ret 0.", api.ErrNumber, 2, 9},
		{"widen.func f 1 0 .ret 0.", api.ErrNumber, 2, 11},
		{"widen.func f 1 0  3 4.ret 0.", api.ErrNumber, 2, 11},
		{"widen.func f 1 0 3  4.ret 0.", api.ErrNumber, 2, 13},
		{"widen.func f 1 0 3 .ret 0.", api.ErrNumber, 2, 13},
		{"widen.func f 1 0 3 4 .ret 0.", api.ErrNumber, 2, 15},
		{"widen.func f 1 0. ret 0.", api.ErrOp, 3, 0},
		{"widen.func f 1 0. .", api.ErrOp, 3, 0},
		{"widen.func f 1 0.ret  0.", api.ErrNumber, 3, 4},
		{"widen.func f 1 0.ret 0 .", api.ErrRest, 3, 5},
		{"widen.func f 1 0.ret 0  .", api.ErrRest, 3, 5},
		{"widen.func f 1 0.add 0  0 0.", api.ErrNumber, 3, 6},
		{"widen.func f 1 0.add 0 0  0.", api.ErrNumber, 3, 8},
		{"widen.func f 1 0.add 0 0 0 .", api.ErrRest, 3, 9},
		{"widen.func f 1 0.ret 0. func g 1 0.ret 0.", api.ErrOp, 4, 0},
	} {
		wrong(t, ends(c.s), c.e, c.line, c.at)
	}
}

// P10.2: all bytes but the blank and the end of a line are parts of words, those too that other readers pass by, and such as begin no character.
func TestBytes(t *testing.T) {
	for c := range 256 {
		if c == ' ' || c == '\n' || '0' <= c && c <= '9' {
			continue
		}
		b := string([]byte{byte(c)})
		wrong(t, b, api.ErrForm, 1, 0)
		wrong(t, b+"widen\n", api.ErrForm, 1, 0)
		wrong(t, "widen"+b+"\n", api.ErrForm, 1, 0)
		wrong(t, "widen"+b+"1 2\n", api.ErrForm, 1, 0)
		wrong(t, "wid"+b+"en 1 2\n", api.ErrForm, 1, 0)
		wrong(t, "widen "+b+"\n", api.ErrNumber, 1, 6)
		wrong(t, "widen 7 1"+b+"\n", api.ErrNumber, 1, 8)
		wrong(t, "widen 7 1"+b+"2 3\n", api.ErrNumber, 1, 8)
		wrong(t, "widen 7 1"+b+" 2\n", api.ErrNumber, 1, 8)
		wrong(t, "widen\nfunc"+b+" f 1 0\nret 0\n", api.ErrForm, 2, 0)
		wrong(t, "widen\nfunc f 1"+b+" 0\nret 0\n", api.ErrNumber, 2, 7)
		wrong(t, "widen\nfunc f 1 0"+b+"\nret 0\n", api.ErrNumber, 2, 9)
		wrong(t, "widen\nfunc f 1 0\nret"+b+" 0\n", api.ErrOp, 3, 0)
		wrong(t, "widen\nfunc f 1 0\n"+b+"ret 0\n", api.ErrOp, 3, 0)
		wrong(t, "widen\nfunc f 1 0\nret 0"+b+"\n", api.ErrNumber, 3, 4)
		wrong(t, "widen\nfunc f 1 0\nret 0"+b, api.ErrNumber, 3, 4)
		wrong(t, "widen\nfunc f 1 0\nret 0\n"+b+"\n", api.ErrOp, 4, 0)
		wrong(t, "widen\nfunc f 1 0\nret 0\n"+b, api.ErrOp, 4, 0)
		// Within a Name any byte may be read, so that what stands behind it is told first, at its place in bytes.
		wrong(t, "widen\nfunc f"+b+" 1\nret 0\n", api.ErrShort, 2, 9)
		wrong(t, "widen\nfunc "+b+b+b+" 1 x\nret 0\n", api.ErrNumber, 2, 11)
		if c < 'a' || c > 'z' {
			wrong(t, "widen\nfunc f"+b+" 1 0\nret 0\n", api.ErrName, 2, 0)
		} else {
			back(t, "widen\nfunc f"+b+" 1 0\nret 0\n")
		}
	}
}

// P10.2: characters of several bytes, and beginnings of such ahead of blanks and of ends of lines, which are no part of them.
func TestCharacters(t *testing.T) {
	for _, s := range []string{"\u00e4", "\u20ac", "\U0001f600", "\xc3", "\xe2\x82", "\xf0\x9f\x98", "\xed\xa0\x80", "\xff\xfe", "\u00a0", "\u2028", "\u0663", "\uff11", "\ufeff", "\ufffd"} {
		n := len(s)
		wrong(t, s+"widen\n", api.ErrForm, 1, 0)
		wrong(t, "widen 1"+s+" 2\n", api.ErrNumber, 1, 6)
		wrong(t, "widen 1 "+s, api.ErrNumber, 1, 8)
		wrong(t, "widen\nfunc "+s+" "+s+" 0\n", api.ErrNumber, 2, 6+n)
		wrong(t, "widen\nfunc "+s+"\n", api.ErrShort, 2, 5+n)
		wrong(t, "widen\nfunc "+s, api.ErrShort, 2, 5+n)
		wrong(t, "widen\nfunc "+s+" 1\n", api.ErrShort, 2, 7+n)
		wrong(t, "widen\nfunc "+s+" 1 0 5\n", api.ErrShort, 2, 11+n)
		wrong(t, "widen\nfunc "+s+" 1 0\nret 0\n", api.ErrName, 2, 0)
		wrong(t, "widen\nfunc f 1 0\n"+s+" 0\n", api.ErrOp, 3, 0)
		wrong(t, "widen\nfunc f 1 0\nret 0 "+s+"\n", api.ErrRest, 3, 5)
		wrong(t, "widen\nfunc f 1 0\nret "+s+" 0\n", api.ErrNumber, 3, 4)
	}
}
