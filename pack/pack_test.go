package pack_test

import (
	"bytes"
	"encoding/hex"
	"fmt"
	"strings"
	"testing"

	"soffit/api"
	"soffit/code"
	"soffit/pack"
)

const (
	least = -1 << 63
	most  = 1<<63 - 1
)

// The bytes that a module begins with, those of some words, and those of a ret.
const (
	begin     = "53465401"
	zeroWord  = "0000000000000000"
	mostWord  = "ffffffffffffff7f"
	leastWord = "0000000000000080"
	lessWord  = "ffffffffffffffff"
	retBytes  = "00000000" + zeroWord
)

var fullName = strings.Repeat("a", api.MaxName)

// row makes bytes of texts in hexadecimal; `|` and blanks stand between parts, and are not there.
func row(parts ...string) []byte {
	b, err := hex.DecodeString(strings.NewReplacer("|", "", " ", "").Replace(strings.Join(parts, "")))
	if err != nil {
		panic(err)
	}
	return b
}

func module(funcs ...api.Func) api.Module { return api.Module{Funcs: funcs} }

func empty(m api.Module) bool { return len(m.Thresholds) == 0 && len(m.Funcs) == 0 }

// fn is a function with instructions, and a ret behind them.
func fn(name string, params, regs int, list ...api.Ins) api.Func {
	return api.Func{Name: name, Params: make([]api.Span, params), Regs: regs, Code: append(list, api.Ins{})}
}

// named is so many functions, which may all be.
func named(n int) []api.Func {
	var list []api.Func
	for i := range n {
		list = append(list, fn(fmt.Sprint("f", i), 0, 1))
	}
	return list
}

// rising is so many thresholds.
func rising(n int) []int64 {
	list := make([]int64, n)
	for i := range list {
		list[i] = int64(i) - 3
	}
	return list
}

// short cuts bytes off for a message.
func short(b []byte) []byte { return b[:min(len(b), 200)] }

// reads holds bytes to the module that they are, whether it may be or not (P11.2).
func reads(t *testing.T, b []byte, m api.Module) {
	t.Helper()
	if got, e, at := pack.Decode(b); !code.Same(got, m) || e != api.OK || at != 0 {
		t.Errorf("Decode(%x): %.300v, %d at %d; not %.300v", short(b), got, e, at, m)
	}
}

// is holds a module that may be and bytes against each other, both ways (P11.1 to P11.3).
func is(t *testing.T, m api.Module, b []byte) {
	t.Helper()
	if got, f := pack.Encode(m); !bytes.Equal(got, b) || f != (api.Fault{}) {
		t.Errorf("Encode(%.300v): %x, %v; not %x", m, short(got), f, short(b))
	}
	reads(t, b, m)
}

// wrong holds bytes that can't be read against what is wrong with them.
func wrong(t *testing.T, b []byte, want api.Errno, at int) {
	t.Helper()
	if m, e, a := pack.Decode(b); e != want || a != at || !empty(m) {
		t.Errorf("Decode(%x), of %d: %.300v, %d at %d; not %d at %d", short(b), len(b), m, e, a, want, at)
	}
}

// The chapter's examples.
func TestExamples(t *testing.T) {
	is(t, api.Module{}, row("53 46 54 01 | 00 | 00"))
	f := api.Func{Name: "f", Regs: 1, Words: 258, Params: []api.Span{{Lo: 0, Hi: 9}}, Code: []api.Ins{{Op: api.OpRet}}}
	is(t, api.Module{Thresholds: []int64{-2}, Funcs: []api.Func{f}}, row("53 46 54 01 | 01 fe ff ff ff ff ff ff ff | 01 | 01 66 | 01 00 00 00 00 00 00 00 00 09 00 00 00 00 00 00 00 | 01 | 02 01 | 01 00 | 00 00 00 00 00 00 00 00 00 00 00 00"))
	for _, c := range []struct {
		s  string
		e  api.Errno
		at int
	}{
		{"", api.ErrShort, 0},
		{"53 46 55", api.ErrForm, 2},
		{"53 46 54 01 11", api.ErrMany, 4},
		{"53 46 54 01 00 21", api.ErrMany, 5},
		{"53 46 54 01 00 01 11", api.ErrName, 6},
		{"53 46 54 01 00 00 00", api.ErrRest, 6},
		{"53 46 54 01 00 01 00 00 00 00 00 01 04", api.ErrCode, 11},
		{"53 46 54 01 00 01 00 00 00 00 00 00 04", api.ErrShort, 13},
	} {
		wrong(t, row(c.s), c.e, c.at)
	}
}

// P11.2: no bytes, as a list that there is and as none.
func TestNothing(t *testing.T) {
	wrong(t, nil, api.ErrShort, 0)
	wrong(t, []byte{}, api.ErrShort, 0)
	wrong(t, row(begin, "0000")[:0], api.ErrShort, 0)
}

// P11.2: MaxModule bytes are read, and the next one is not looked at, nor anything else then.
func TestMaxModule(t *testing.T) {
	if api.MaxModule != 1<<20 {
		t.Fatal("the limit")
	}
	for _, c := range []struct {
		b  []byte
		e  api.Errno
		at int
	}{
		{nil, api.ErrForm, 0},
		{row("534655"), api.ErrForm, 2},
		{row(begin, "11"), api.ErrMany, 4},
		{row(begin, "0021"), api.ErrMany, 5},
		{row(begin, "000111"), api.ErrName, 6},
		{row(begin, "00010009"), api.ErrMany, 7},
		{row(begin, "00010000", "000000", "0104"), api.ErrCode, 11},
		{row(begin, "0000"), api.ErrRest, 6},
		{row(begin, "0001 0166 00 01 0000 0100", retBytes), api.ErrRest, 26},
		{bytesOf(full()), api.ErrRest, 398182},
	} {
		for _, n := range []int{1<<20 - 1, 1 << 20} {
			wrong(t, append(c.b[:len(c.b):len(c.b)], make([]byte, n-len(c.b))...), c.e, c.at)
		}
		for _, n := range []int{1<<20 + 1, 1<<20 + 2, 1 << 21} {
			wrong(t, append(c.b[:len(c.b):len(c.b)], make([]byte, n-len(c.b))...), api.ErrBytes, 1<<20)
		}
	}
}
