package pack_test

import (
	"fmt"
	"slices"
	"strings"
	"testing"

	"soffit/api"
	"soffit/code"
	"soffit/pack"
)

// part is one number of a module's bytes, or a Name: what it is, and its bytes in hexadecimal.
type part struct{ what, bytes string }

type parts []part

// base is a module of each kind of part, whose functions have several parameters, one and none. No two of its parts that are neighbours are the same.
func base() parts {
	all := parts{
		{"form", "53"}, {"form", "46"}, {"form", "54"}, {"form", "01"},
		{"thresholds", "02"}, {"threshold", "feffffffffffffff"}, {"threshold", "0001000000000000"},
		{"functions", "03"},
	}
	all = append(all, function("6f31", "0300000000000000 0900000000000000 ffffffffffffffff 0200000000000000", "05", "0201", "01 04 00 00 0807060504030201", "03 01 02 03 0000000000000000", "13 04 03 00 0200000000000000", "12 01 00 00 0000000000000000")...)
	all = append(all, function("67", "0000000000000000 0100000000000000", "02", "ff00", "00 01 00 00 0000000000000000")...)
	return append(all, function(strings.Repeat("68", 16), "", "01", "0010", "0c 00 00 00 ffffffffffffffff", "0e 00 00 00 0100000000000000")...)
}

// function is the parts of one.
func function(name, params, regs, words string, list ...string) parts {
	ends := strings.Fields(params)
	all := parts{{"name", fmt.Sprintf("%02x", len(name)/2)}, {"letters", name}, {"parameters", fmt.Sprintf("%02x", len(ends)/2)}}
	for i, s := range ends {
		all = append(all, part{[]string{"lo", "hi"}[i%2], s})
	}
	all = append(all, part{"regs", regs}, part{"words", words}, part{"code", fmt.Sprintf("%02x00", len(list))})
	for _, s := range list {
		for i, w := range strings.Fields(s) {
			all = append(all, part{[]string{"op", "a", "b", "c", "n"}[i], w})
		}
	}
	return all
}

func (p parts) bytes() []byte {
	var b []byte
	for _, x := range p {
		b = append(b, row(x.bytes)...)
	}
	return b
}

// slip is other bytes in place of a part's, as many, and the error at their place; OK, if they can be read.
type slip struct {
	what     string
	from, to int
	bytes    []byte
	e        api.Errno
}

func (s slip) on(b []byte) []byte { return slices.Concat(b[:s.from], s.bytes, b[s.to:]) }

// others are, for each kind of part, bytes that may not stand there, and the error.
func others(what string) (api.Errno, []string) {
	switch what {
	case "thresholds":
		return api.ErrMany, []string{"11", "12", "20", "80", "ff"}
	case "functions":
		return api.ErrMany, []string{"21", "22", "40", "80", "ff"}
	case "parameters":
		return api.ErrMany, []string{"09", "0a", "10", "80", "ff"}
	case "name":
		return api.ErrName, []string{"11", "12", "20", "80", "ff"}
	case "code":
		return api.ErrCode, []string{"0104", "0204", "ff04", "0005", "0008", "0080", "ffff", "0010"}
	case "form":
		return api.ErrForm, []string{"00", "02", "47", "52", "55", "73", "80", "ff"}
	}
	return api.OK, nil
}

// mayNot are, for each kind of part, bytes that can be read there, though the module may not be.
func mayNot(what string) []string {
	switch what {
	case "threshold", "lo":
		return []string{mostWord}
	case "hi":
		return []string{leastWord}
	case "regs":
		return []string{"00", "41", "ff"}
	case "words":
		return []string{"0110", "ffff"}
	case "op":
		return []string{"14", "80", "ff"}
	case "a", "b", "c":
		return []string{"40", "80", "ff"}
	}
	return nil
}

// slips are all that are wrong, and such as are not, by their place.
func slips() (wrongs, reads []slip) {
	from := 0
	for i, p := range base() {
		to := from + len(row(p.bytes))
		e, list := others(p.what)
		for _, s := range list {
			if s != p.bytes {
				wrongs = append(wrongs, slip{fmt.Sprintf("part %d, %s: %s", i, p.what, s), from, to, row(s), e})
			}
		}
		list = mayNot(p.what)
		if p.what == "letters" {
			list = []string{strings.Repeat("00", to-from), strings.Repeat("ff", to-from), strings.Repeat("46", to-from)}
		}
		for _, s := range list {
			reads = append(reads, slip{fmt.Sprintf("part %d, %s: %s", i, p.what, s), from, to, row(s), api.OK})
		}
		from = to
	}
	return wrongs, reads
}

// The base itself may be.
func TestBase(t *testing.T) {
	b := base().bytes()
	m, e, at := pack.Decode(b)
	if e != api.OK || at != 0 || code.May(m) != (api.Fault{}) {
		t.Fatalf("%v, %d at %d: %v", m, e, at, code.May(m))
	}
	is(t, api.Module{Thresholds: []int64{-2, 256}, Funcs: []api.Func{
		{Name: "o1", Params: []api.Span{{Lo: 3, Hi: 9}, {Lo: -1, Hi: 2}}, Regs: 5, Words: 258, Code: []api.Ins{{Op: api.OpSet, A: 4, N: 0x0102030405060708}, {Op: api.OpAdd, A: 1, B: 2, C: 3}, {Op: api.OpCall, A: 4, B: 3, N: 2}, {Op: api.OpStep, A: 1}}},
		{Name: "g", Params: []api.Span{{Lo: 0, Hi: 1}}, Regs: 2, Words: 255, Code: []api.Ins{{Op: api.OpRet, A: 1}}},
		{Name: strings.Repeat("h", 16), Regs: 1, Words: 4096, Code: []api.Ins{{Op: api.OpStore, N: -1}, {Op: api.OpJump, N: 1}}},
	}}, b)
}

// P11.2: each error alone, at its place; so it is, if nothing at all stands behind it.
func TestAlone(t *testing.T) {
	b := base().bytes()
	told := map[api.Errno]int{}
	wrongs, _ := slips()
	for _, s := range wrongs {
		wrong(t, s.on(b), s.e, s.from)
		wrong(t, s.on(b)[:s.to], s.e, s.from)
		told[s.e]++
	}
	for _, e := range []api.Errno{api.ErrForm, api.ErrMany, api.ErrName, api.ErrCode} {
		if told[e] == 0 {
			t.Errorf("the error %d was not met", e)
		}
	}
}

// P11.2: of two errors the one that is ahead, of whatever kinds they are.
func TestFirst(t *testing.T) {
	b := base().bytes()
	wrongs, _ := slips()
	for i, first := range wrongs {
		for _, second := range wrongs[i+1:] {
			if first.from != second.from {
				wrong(t, first.on(second.on(b)), first.e, first.from)
			}
		}
	}
}

// P11.2: what may not be, but can be read, hides no error, wherever it stands; nor does it hide that bytes end too early, or go on.
func TestMayNot(t *testing.T) {
	b := base().bytes()
	wrongs, readable := slips()
	for _, r := range readable {
		for _, s := range wrongs {
			wrong(t, s.on(r.on(b)), s.e, s.from)
		}
		for k := range len(b) {
			wrong(t, r.on(b)[:k], api.ErrShort, k)
		}
		wrong(t, append(r.on(b), 0), api.ErrRest, len(b))
	}
}

// P11.2: bytes that end too early at any place: an error whose number is there whole goes ahead of that; one whose number is cut off isn't told.
func TestShort(t *testing.T) {
	b := base().bytes()
	wrongs, _ := slips()
	for k := range len(b) {
		wrong(t, b[:k], api.ErrShort, k)
		for _, s := range wrongs {
			if s.to <= k {
				wrong(t, s.on(b)[:k], s.e, s.from)
			} else {
				wrong(t, s.on(b)[:k], api.ErrShort, k)
			}
		}
	}
}

// P11.2: something behind the end is told there, however much it is, and behind all other errors.
func TestRest(t *testing.T) {
	b := base().bytes()
	wrongs, _ := slips()
	for _, rest := range [][]byte{{0}, {1}, {0xff}, {0x53}, row(begin), row(begin, "0000"), b, make([]byte, 12), make([]byte, 100000)} {
		wrong(t, slices.Concat(b, rest), api.ErrRest, len(b))
		wrong(t, slices.Concat(row(begin, "0000"), rest), api.ErrRest, 6)
		wrong(t, slices.Concat(row(begin, "01", zeroWord, "00"), rest), api.ErrRest, 14)
		for _, s := range wrongs {
			wrong(t, slices.Concat(s.on(b), rest), s.e, s.from)
		}
	}
}

// P11.2: more bytes than may be go ahead of each other error; just as many don't.
func TestTooLong(t *testing.T) {
	b := base().bytes()
	wrongs, readable := slips()
	long := make([]byte, api.MaxModule+1)
	for _, s := range append(wrongs, readable...) {
		copy(long, s.on(b))
		wrong(t, long, api.ErrBytes, api.MaxModule)
		e, at := s.e, s.from
		if e == api.OK {
			e, at = api.ErrRest, len(b)
		}
		wrong(t, long[:api.MaxModule], e, at)
	}
}

// P11.2: a number of several bytes is wanted whole, and then looked at: cut off, it is too short, though what is there of it would be too great.
func TestCutNumbers(t *testing.T) {
	for _, head := range []string{"0001 00 00 00 0000", "0001 0166 00 01 0000", "0002 0166 00 01 0000 0100" + retBytes + "0167 00 ff ffff"} {
		b := row(begin, head)
		for c := range 256 {
			wrong(t, append(b[:len(b):len(b)], byte(c)), api.ErrShort, len(b)+1)
		}
		for high := 4; high < 256; high++ {
			for _, low := range []byte{0, 1, 2, 255} {
				e, at := api.ErrCode, len(b)
				if high == 4 && low == 0 {
					e, at = api.ErrShort, len(b)+2
				}
				wrong(t, append(b[:len(b):len(b)], low, byte(high)), e, at)
			}
		}
	}
	for k := range 8 {
		wrong(t, row(begin, "01", lessWord)[:5+k], api.ErrShort, 5+k)
		wrong(t, row(begin, "02", zeroWord, lessWord)[:13+k], api.ErrShort, 13+k)
		wrong(t, row(begin, "0001 00 01", lessWord)[:8+k], api.ErrShort, 8+k)
		wrong(t, row(begin, "0001 00 01", mostWord, leastWord)[:16+k], api.ErrShort, 16+k)
		wrong(t, row(begin, "0001 00 00 00 0000 0100 ffffffff", lessWord)[:17+k], api.ErrShort, 17+k)
	}
	// Words may be any short that is whole.
	wrong(t, row(begin, "0001 00 00 00 ff"), api.ErrShort, 10)
	wrong(t, row(begin, "0001 00 00 00 ffff"), api.ErrShort, 11)
}
