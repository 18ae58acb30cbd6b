package asm_test

import (
	"math/big"
	"math/rand/v2"
	"regexp"
	"slices"
	"strconv"
	"strings"
	"testing"

	"soffit/api"
	"soffit/asm"
	"soffit/code"
)

// The model lists all that is wrong with a line, in any order, each thing with its place and with a rank where two are at one place, and takes the first.

type finding struct {
	at, rank int
	e        api.Errno
}

var modelNumber = regexp.MustCompile(`\A(0|-?[1-9][0-9]*)\z`)

func isNumber(s string) bool {
	n, ok := new(big.Int).SetString(s, 10)
	return modelNumber.MatchString(s) && ok && n.IsInt64()
}

// shape is what a line wants behind its first word, a sign a word, where it has so many words there; no line begins so, if ok is false.
func shape(first string, line, words int) (string, bool) {
	switch {
	case line == 0:
		return strings.Repeat("#", words), first == "widen"
	case first == "func":
		pairs := max(0, words-3+1) / 2
		return "n##" + strings.Repeat("##", pairs), true
	case line == 1:
		return "", false
	}
	for _, o := range operations {
		if o.word == first {
			return "###"[:len(o.fields)], true
		}
	}
	return "", false
}

func findingsOf(text string, line int) []finding {
	body := strings.TrimSuffix(text, "\n")
	words := strings.Split(body, " ")
	wants, ok := shape(words[0], line, len(words)-1)
	if !ok {
		return []finding{{0, 0, map[bool]api.Errno{true: api.ErrForm, false: api.ErrOp}[line < 2]}}
	}
	var all []finding
	if len(words)-1 < len(wants) || body == text {
		all = append(all, finding{len(body), 2, api.ErrShort})
	}
	at := len(words[0])
	for i, w := range words[1:] {
		if i >= len(wants) {
			all = append(all, finding{at, 1, api.ErrRest})
		} else if wants[i] == '#' && !isNumber(w) {
			all = append(all, finding{at + 1, 0, api.ErrNumber})
		}
		at += 1 + len(w)
	}
	return all
}

// modelParse tells the module of a text, or what is wrong with it, its line and its place.
func modelParse(s string) (api.Module, api.Errno, int, int) {
	lines := strings.SplitAfter(s, "\n")
	if n := len(lines); n > 1 && lines[n-1] == "" {
		lines = lines[:n-1]
	}
	for i, l := range lines {
		if all := findingsOf(l, i); len(all) > 0 {
			f := slices.MinFunc(all, func(a, b finding) int { return 4*(a.at-b.at) + a.rank - b.rank })
			return api.Module{}, f.e, i + 1, f.at
		}
	}
	m, heads, rows := modelModule(lines)
	f := code.May(m)
	switch f.E {
	case api.OK:
		return m, api.OK, 0, 0
	case api.ErrRange, api.ErrReg, api.ErrJump, api.ErrFall, api.ErrCall:
		return api.Module{}, f.E, rows[f.Func][f.At], 0
	}
	if f.E == api.ErrOrder || f == (api.Fault{E: api.ErrMany, At: 16}) {
		return api.Module{}, f.E, 1, 0
	}
	return api.Module{}, f.E, heads[f.Func], 0
}

// modelModule makes a module of lines with nothing wrong in them; with it the line of each function, and of each of its instructions.
func modelModule(lines []string) (m api.Module, heads []int, rows [][]int) {
	for i, l := range lines {
		words := strings.Split(strings.TrimSuffix(l, "\n"), " ")
		var n []int64
		for _, w := range words[1:] {
			k, _ := strconv.ParseInt(w, 10, 64)
			n = append(n, k)
		}
		switch words[0] {
		case "widen":
			m.Thresholds = n
		case "func":
			f := api.Func{Name: words[1], Regs: int(n[1]), Words: int(n[2])}
			for k := 3; k < len(n); k += 2 {
				f.Params = append(f.Params, api.Span{Lo: n[k], Hi: n[k+1]})
			}
			m.Funcs, heads, rows = append(m.Funcs, f), append(heads, i+1), append(rows, nil)
		default:
			var x api.Ins
			for op, o := range operations {
				if o.word == words[0] {
					x.Op = op
				}
			}
			for k, field := range operations[x.Op].fields {
				set(&x, field, n[k])
			}
			last := len(m.Funcs) - 1
			m.Funcs[last].Code = append(m.Funcs[last].Code, x)
			rows[last] = append(rows[last], i+1)
		}
	}
	return m, heads, rows
}

// against holds Parse of a text to the model; and what is read, to what is printed of it.
func against(t *testing.T, s string) api.Errno {
	t.Helper()
	m, e, line, at := asm.Parse(s)
	want, e2, line2, at2 := modelParse(s)
	if e != e2 || line != line2 || at != at2 || !code.Same(m, want) {
		t.Errorf("Parse(%q): %v, %d at %d, %d; not %v, %d at %d, %d", s, m, e, line, at, want, e2, line2, at2)
	}
	if e == api.OK {
		is(t, m, s)
	}
	return e
}

// rows holds all rows of up to n pieces behind a text to the model.
func rows(t *testing.T, s string, pieces []string, n int) {
	t.Helper()
	against(t, s)
	for _, p := range pieces {
		if n > 0 {
			rows(t, s+p, pieces, n-1)
		}
	}
}

// P10.2, P10.3: all short rows of pieces, from the beginning on and behind a right line of each kind.
func TestShortRows(t *testing.T) {
	pieces := []string{"widen", "func", "ret", "f", "1", "0", "-", " ", "\n"}
	for _, ahead := range []string{"", "widen", "widen\n", "widen\nfunc f 1 0", "widen\nfunc f 1 0\n", "widen\nfunc f 1 0\nret 0\n"} {
		rows(t, ahead, pieces, 5)
	}
}

// maker makes modules and texts at random, always the same ones.
type maker struct{ *rand.Rand }

func pick[T any](k maker, list ...T) T { return list[k.IntN(len(list))] }

func (k maker) number() int64 {
	if k.IntN(3) == 0 {
		return int64(k.Uint64() >> k.IntN(64))
	}
	return pick[int64](k, 0, 0, 1, -1, 2, 9, 10, -10, 4096, most, least, most-1, least+1)
}

func (k maker) head(number int) api.Func {
	f := api.Func{Name: pick(k, "f", "g", "func", "ret", "widen", "a0", "longer") + strconv.Itoa(number), Words: pick(k, 0, 1, 10, 4096)}
	for range pick(k, 0, 0, 1, 2, 8) {
		a, b := k.number(), k.number()
		f.Params = append(f.Params, api.Span{Lo: min(a, b), Hi: max(a, b)})
	}
	f.Regs = min(64, max(1, len(f.Params))+pick(k, 0, 1, 10, 64))
	f.Code = make([]api.Ins, pick(k, 1, 2, 3, 5, 12))
	return f
}

// instruction makes one that may stand in the function f.
func (k maker) instruction(m api.Module, f api.Func, op int) api.Ins {
	x := api.Ins{Op: op}
	for _, field := range operations[op].fields {
		set(&x, field, int64(k.IntN(f.Regs)))
	}
	switch operations[op].word {
	case "set", "load", "store":
		x.N = k.number()
	case "check":
		x.N = int64(pick(k, 1, 2, 10, 4095, 4096))
	case "jump", "if", "unless", "count", "step":
		x.N = int64(k.IntN(len(f.Code)))
	case "call":
		x.N = int64(k.IntN(len(m.Funcs)))
		room := f.Regs - len(m.Funcs[x.N].Params)
		if room < 0 {
			return api.Ins{}
		}
		x.B = min(k.IntN(room+1), f.Regs-1)
	}
	return x
}

// module makes one that may be.
func (k maker) module() api.Module {
	var m api.Module
	for range pick(k, 0, 1, 2, 3, 16) {
		m.Thresholds = append(m.Thresholds, k.number())
	}
	slices.Sort(m.Thresholds)
	m.Thresholds = slices.Compact(m.Thresholds)
	funcs := pick(k, 0, 1, 1, 2, 3)
	if k.IntN(15) == 0 {
		funcs = 32
	}
	for i := range funcs {
		m.Funcs = append(m.Funcs, k.head(i))
	}
	for _, f := range m.Funcs {
		for i := range f.Code {
			f.Code[i] = k.instruction(m, f, k.IntN(20))
		}
		f.Code[len(f.Code)-1] = k.instruction(m, f, pick(k, api.OpRet, api.OpJump, api.OpStep))
	}
	return m
}

// spoil changes one thing of a text: a byte, a word or a line.
func (k maker) spoil(s string) string {
	at := k.IntN(len(s) + 1)
	b := string([]byte{pick(k, ' ', '\n', '0', '1', '9', '-', 'f', 'x', 0, 13, 0x80, 0xff, byte(k.IntN(256)))})
	switch k.IntN(7) {
	case 0:
		return s[:at] + b + s[at:]
	case 1:
		return s[:at] + b + s[min(at+1, len(s)):]
	case 2:
		return s[:at] + s[min(at+1, len(s)):]
	case 3:
		return s[:at]
	case 4:
		lines := strings.SplitAfter(s, "\n")
		i, j := k.IntN(len(lines)), k.IntN(len(lines))
		lines[i], lines[j] = lines[j], lines[i]
		return strings.Join(lines, "")
	case 5:
		lines := strings.SplitAfter(s, "\n")
		i := k.IntN(len(lines))
		return strings.Join(slices.Insert(lines, i, lines[k.IntN(len(lines))]), "")
	}
	lines := strings.Split(s, "\n")
	i := k.IntN(len(lines))
	words := strings.Split(lines[i], " ")
	words[k.IntN(len(words))] = pick(k, "", "3 4", "0", "1", "-1", "64", "65", "007", "x", "func", "ret", "4097", mostText, leastText, "9223372036854775808", strconv.FormatInt(k.number(), 10))
	lines[i] = strings.Join(words, " ")
	return strings.Join(lines, "\n")
}

// P10.3, W10: modules at random are printed, and read as they were; the same with one to three things changed in the text.
func TestRandom(t *testing.T) {
	k := maker{rand.New(rand.NewPCG(10, 1))}
	told := map[api.Errno]int{}
	for range 20000 {
		m := k.module()
		s, f := asm.Print(m)
		if f != (api.Fault{}) {
			t.Fatalf("a module that may be: %v: %v", m, f)
		}
		is(t, m, s)
		against(t, s)
		other := s
		for range 3 {
			other = k.spoil(other)
			told[against(t, other)]++
			if got, e, _, _ := asm.Parse(other); e == api.OK && other != s && code.Same(got, m) {
				t.Errorf("%q and %q are one module", s, other)
			}
		}
	}
	for _, e := range []api.Errno{api.OK, api.ErrForm, api.ErrShort, api.ErrRest, api.ErrNumber, api.ErrOp, api.ErrMany, api.ErrName, api.ErrTwice, api.ErrEmpty, api.ErrReg, api.ErrJump, api.ErrFall, api.ErrCall, api.ErrOrder, api.ErrRegs, api.ErrWords, api.ErrCode, api.ErrRange} {
		if told[e] < 20 {
			t.Errorf("the error %d was met %d times only", e, told[e])
		}
	}
}

// P10.2, P10.3: each byte of a text changed to each other one, left out, and each byte put in at each place; none of these texts has the module of the text itself.
func TestOneByte(t *testing.T) {
	short := ends("widen -3 70.func f 2 3 0 9.set 1 -5.count 1 0 2.step 1 1.func g1 1 0.ret 0.")
	var every []byte
	for c := range 256 {
		every = append(every, byte(c))
	}
	eachByte(t, short, every)
	eachByte(t, base().text(), []byte(" \n019-fx\x00\r\xc3\xff"))
}

func eachByte(t *testing.T, s string, list []byte) {
	t.Helper()
	m, e, _, _ := asm.Parse(s)
	if e != api.OK {
		t.Fatalf("Parse(%q): %d", s, e)
	}
	hold := func(other string) {
		against(t, other)
		if got, e, _, _ := asm.Parse(other); other != s && e == api.OK && code.Same(got, m) {
			t.Errorf("%q and %q are one module", s, other)
		}
	}
	for at := range len(s) + 1 {
		for _, c := range list {
			hold(s[:at] + string([]byte{c}) + s[at:])
			if at < len(s) {
				hold(s[:at] + string([]byte{c}) + s[at+1:])
			}
		}
		hold(s[:at])
		hold(s[at:])
		if at < len(s) {
			hold(s[:at] + s[at+1:])
		}
	}
}

// P10.3: any two modules that differ in one thing have two texts.
func TestTwoTexts(t *testing.T) {
	k := maker{rand.New(rand.NewPCG(10, 2))}
	seen := map[string]api.Module{}
	for range 20000 {
		m := k.module()
		if n := len(m.Funcs); n > 0 && k.IntN(2) == 0 {
			m.Funcs = m.Funcs[:1]
			m.Funcs[0].Code = []api.Ins{k.instruction(m, m.Funcs[0], api.OpRet)}
			m.Thresholds = nil
		}
		s, f := asm.Print(m)
		if f != (api.Fault{}) {
			continue
		}
		if other, ok := seen[s]; ok && !code.Same(m, other) {
			t.Errorf("%v and %v are both %q", m, other, s)
		}
		seen[s] = m
	}
}

func FuzzAgainstModel(f *testing.F) {
	f.Add("")
	f.Add(base().text())
	for _, s := range []string{"widen -3 7.", "widen.func f 2 3 0 9.set 1 -5.add 1 0 1.ret 1.", "widen 07.", "widen.func f 1 0 4.", "widen.func f 1 0.ret 0 0."} {
		f.Add(ends(s))
	}
	f.Fuzz(func(t *testing.T, s string) { against(t, s) })
}
