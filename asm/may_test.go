package asm_test

import (
	"fmt"
	"strings"
	"testing"

	"soffit/api"
	"soffit/asm"
	"soffit/code"
)

const (
	mostText  = "9223372036854775807"
	leastText = "-9223372036854775808"
)

// adding is the word of those slips that put instructions behind the last line.
const adding = 91

// adds tells whether a slip of mays puts lines behind the last one.
func (s slip) adds() bool { return s.word == adding || s.line >= len(base().lines) }

// mays are things that can be read but may not be, in the order of P9.4. Those that add lines do so at the end.
func mays() []slip {
	var all []slip
	zero := func(*page) int { return 0 }
	add := func(what string, e api.Errno, line, word int, do func(p *page)) {
		all = append(all, slip{what, line, word, do, e, zero})
	}
	put := func(e api.Errno, line, word int, list ...string) {
		for _, s := range list {
			add(fmt.Sprintf("line %d, word %d: %q", line+1, word, s), e, line, word, func(p *page) { p.lines[line][word] = s })
		}
	}
	words := func(e api.Errno, line, key int, s string) {
		add(fmt.Sprintf("line %d and %q", line+1, s), e, line, key, func(p *page) { p.lines[line] = append(p.lines[line], strings.Fields(s)...) })
	}
	end := len(base().lines)
	words(api.ErrMany, 0, 90, strings.Repeat(" 1", 14))
	words(api.ErrMany, 0, 90, "71 72 73 74 75 76 77 78 79 80 81 82 83 84")
	words(api.ErrMany, 0, 90, strings.Repeat(" 1", 500))
	put(api.ErrOrder, 0, 1, "0", "1", mostText)
	put(api.ErrOrder, 0, 3, "0", "-1", leastText)
	// 30 functions more are one too many; the last one's line is the last but one.
	add("33 functions", api.ErrMany, end+58, 0, func(p *page) {
		for i := range 30 {
			p.lines = append(p.lines, []string{"func", fmt.Sprint("n", i), "1", "0"}, []string{"ret", "0"})
		}
	})
	for number, line := range []int{1, 22, 24} {
		put(api.ErrName, line, 1, "", "F", "0", "a-b", "\xff", "\u00e4", fullName+"a", strings.Repeat("a", 300), "f\r", "f\x00")
		for _, name := range []string{"f", "g"}[:min(number, 2)] {
			put(api.ErrTwice, line, 1, name)
		}
		words(api.ErrMany, line, 90, strings.Repeat(" 1 0", 9))
		words(api.ErrMany, line, 90, strings.Repeat(" 0 1", 9))
		words(api.ErrMany, line, 90, strings.Repeat(" 0 1", 300))
		if number != 1 {
			put(api.ErrEmpty, line, 4, "11", mostText)
			put(api.ErrEmpty, line, 5, "-11", leastText)
		}
		put(api.ErrRegs, line, 2, "0", "-1", "65", "4294967297", mostText, leastText)
		put(api.ErrWords, line, 3, "-1", "4097", "4294967296", mostText, leastText)
	}
	add("1025 instructions", api.ErrCode, 24, adding, func(p *page) {
		for range 1023 {
			p.lines = append(p.lines, []string{"ret", "0"})
		}
	})
	add("3000 instructions", api.ErrCode, 24, adding, func(p *page) {
		for range 2998 {
			p.lines = append(p.lines, []string{"ret", "0"})
		}
	})
	add("no instructions", api.ErrCode, end, 0, func(p *page) { p.lines = append(p.lines, []string{"func", "z", "1", "0"}) })
	return append(all, codeMays()...)
}

// codeMays are those of instructions.
func codeMays() []slip {
	var all []slip
	put := func(e api.Errno, line, word int, s string) {
		all = append(all, slip{fmt.Sprintf("line %d, word %d: %q", line+1, word, s), line, word, func(p *page) { p.lines[line][word] = s }, e, func(*page) int { return 0 }})
	}
	function := -1
	for line, words := range base().lines[1:] {
		line++
		if words[0] == "func" {
			function++
			continue
		}
		regs := []string{"14", "1", "12"}[function]
		for op, o := range operations {
			if o.word != words[0] {
				continue
			}
			for i, field := range o.fields {
				switch {
				case field != 'N':
					for _, s := range []string{regs, "-1", "64", "4294967296", mostText, leastText} {
						put(api.ErrReg, line, i+1, s)
					}
				case o.word == "check":
					for _, s := range []string{"0", "-1", "4097", mostText, leastText} {
						put(api.ErrRange, line, i+1, s)
					}
				case o.word == "call":
					for _, s := range []string{"35", "-1", "4294967296", mostText, leastText} {
						put(api.ErrCall, line, i+1, s)
					}
				case op >= api.OpJump && op <= api.OpStep:
					for _, s := range []string{"4096", "-1", "4294967296", mostText, leastText} {
						put(api.ErrJump, line, i+1, s)
					}
				}
			}
		}
		switch strings.Join(words, " ") {
		case "ret 12":
			all = append(all, slip{"f falls", line, 0, func(p *page) { p.lines[line] = []string{"not", "0", "0"} }, api.ErrFall, func(*page) int { return 0 }})
		case "ret 0":
			all = append(all, slip{"g falls", line, 0, func(p *page) { p.lines[line] = []string{"move", "0", "0"} }, api.ErrFall, func(*page) int { return 0 }})
		}
	}
	return all
}

// P10.2, 2: each fault of code.May alone, at its line.
func TestMayAlone(t *testing.T) {
	told := map[api.Errno]int{}
	for _, s := range mays() {
		p := base()
		s.do(p)
		holds(t, s.what, p, s)
		told[s.e]++
	}
	for _, e := range []api.Errno{api.ErrMany, api.ErrName, api.ErrTwice, api.ErrRange, api.ErrEmpty, api.ErrReg, api.ErrJump, api.ErrFall, api.ErrCall, api.ErrOrder, api.ErrRegs, api.ErrWords, api.ErrCode} {
		if told[e] == 0 {
			t.Errorf("the error %d was not met", e)
		}
	}
}

// P10.2, 2: of two faults of code.May the first one in its own order, not in that of the lines: a later function's head goes ahead of an earlier one's instruction.
func TestMayFirst(t *testing.T) {
	all := mays()
	for i, first := range all {
		for _, second := range all[i+1:] {
			// One word is turned once, and where two add lines the places are others.
			if first.key() == second.key() || first.adds() && second.adds() {
				continue
			}
			p := base()
			second.do(p)
			first.do(p)
			holds(t, first.what+"; and "+second.what, p, first)
		}
	}
}

// P10.2: all that is wrong with a text's words goes ahead of all that code.May tells of what was read, wherever it stands.
func TestMayLast(t *testing.T) {
	all := slips([]string{"x"}, []string{"x", ""})
	for _, second := range mays() {
		for _, first := range all {
			// A line that is put in place of another one has other words, and the end is missing on the last line alone.
			if first.key() == second.key() || second.line == first.line && second.word == 0 || first.what == "no end" && second.adds() {
				continue
			}
			p := base()
			second.do(p)
			first.do(p)
			holds(t, first.what+"; and "+second.what, p, first)
		}
	}
}

// P10.2, 2: the line is that of the function or of the instruction itself, with functions of other lengths ahead of it.
func TestMayLines(t *testing.T) {
	for _, ahead := range []int{1, 2, 3, 10, 1024} {
		for functions := range 4 {
			text, line := "widen 1 2\n", 2
			for i := range functions {
				text += fmt.Sprintf("func a%d 1 0\n", i) + strings.Repeat("ret 0\n", ahead)
				line += 1 + ahead
			}
			wrong(t, text+"func F 1 0\nret 0\nfunc z 1 0\nret 0\n", api.ErrName, line, 0)
			wrong(t, text+"func f 0 0\nret 0\nfunc z 1 0\nret 0\n", api.ErrRegs, line, 0)
			wrong(t, text+"func f 1 0\nfunc z 1 0\nret 0\n", api.ErrCode, line, 0)
			wrong(t, text+"func z 1 0\nret 0\nfunc f 1 0\n", api.ErrCode, line+2, 0)
			wrong(t, text+"func f 1 0\nret 1\nret 1\nfunc z 1 0\nret 1\n", api.ErrReg, line+1, 0)
			wrong(t, text+"func f 1 0\nret 0\nret 1\nfunc z 1 0\nret 1\n", api.ErrReg, line+2, 0)
			wrong(t, text+"func f 1 0\nret 0\nret 0\nfunc z 1 0\nret 1\n", api.ErrReg, line+4, 0)
			wrong(t, text+"func f 1 0\nret 0\nset 0 0\nfunc z 1 0\nret 1\n", api.ErrFall, line+2, 0)
			wrong(t, text+"func f 1 0\nret 1\nfunc z 65 0\nret 0\n", api.ErrRegs, line+2, 0)
		}
	}
}

// P10.2, 2: 9 parameters of a first function are its own ErrMany, and 17 thresholds the first line's, whichever else there is; 16 and 8 may be.
func TestMany(t *testing.T) {
	widen := func(n int) string { return "widen" + strings.Repeat(" 0", n) + "\n" }
	params := func(n int) string { return "func f 9 0" + strings.Repeat(" 0 0", n) + "\nret 0\n" }
	for n := range 9 {
		back(t, widen(0)+params(n))
	}
	back(t, "widen 1 2 3 4 5 6 7 8 9 10 11 12 13 14 15 16\n"+params(8))
	wrong(t, "widen 1 2 3 4 5 6 7 8 9 10 11 12 13 14 15 16\n"+params(9), api.ErrMany, 2, 0)
	wrong(t, "widen 1 2 3 4 5 6 7 8 9 10 11 12 13 14 15 16 17\n"+params(8), api.ErrMany, 1, 0)
	for _, n := range []int{9, 10, 11, 64, 65, 5000} {
		wrong(t, widen(0)+params(n), api.ErrMany, 2, 0)
		wrong(t, widen(1)+"func e 1 0\nret 0\n"+params(n), api.ErrMany, 4, 0)
		wrong(t, widen(2)+params(n), api.ErrOrder, 1, 0)
		// A Hi is wanted behind each Lo, however many there are, and all of them must be numbers.
		head := strings.TrimSuffix(params(n), "\nret 0\n")
		wrong(t, "widen\n"+head+" 0\nret 0\n", api.ErrShort, 2, len(head)+2)
		wrong(t, "widen\n"+head+" 0 x\nret 0\n", api.ErrNumber, 2, len(head)+3)
		wrong(t, "widen\n"+head+" 0 0 \nret 0\n", api.ErrNumber, 2, len(head)+5)
	}
	for _, n := range []int{17, 18, 19, 20, 21, 22, 23, 5000} {
		wrong(t, widen(n), api.ErrMany, 1, 0)
		wrong(t, widen(n)+params(9), api.ErrMany, 1, 0)
		wrong(t, widen(n)+"func f 1 0\n", api.ErrMany, 1, 0)
		wrong(t, strings.TrimSuffix(widen(n), "\n")+" x\n", api.ErrNumber, 1, 6+2*n)
	}
	manyFuncs(t)
}

// manyFuncs holds functions beyond the last that may be, and instructions, to their line, however many there are.
func manyFuncs(t *testing.T) {
	t.Helper()
	for _, n := range []int{31, 32, 33, 34, 35, 500} {
		text := "widen\n"
		for i := range n {
			text += fmt.Sprintf("func f%d 2 0\nset 1 0\nret 0\n", i)
		}
		if n <= 32 {
			back(t, text)
			continue
		}
		wrong(t, text, api.ErrMany, 2+3*32, 0)
		wrong(t, text+"func f0 0 -1 3 2\n", api.ErrMany, 2+3*32, 0)
		wrong(t, text+"x\n", api.ErrOp, 2+3*n, 0)
		wrong(t, text+"ret x\n", api.ErrNumber, 2+3*n, 4)
		wrong(t, text+"ret 0", api.ErrShort, 2+3*n, 5)
		wrong(t, strings.Replace(text, "set 1 0", "set 7 0", 1), api.ErrMany, 2+3*32, 0)
		wrong(t, strings.Replace(text, "widen", "widen 1 1", 1), api.ErrOrder, 1, 0)
	}
	for _, n := range []int{1023, 1024, 1025, 1026, 9999} {
		text := "widen\nfunc f 1 0\n" + strings.Repeat("ret 0\n", n)
		if n <= 1024 {
			back(t, text)
			continue
		}
		wrong(t, text, api.ErrCode, 2, 0)
		wrong(t, text+"set 0 0\n", api.ErrCode, 2, 0)
		wrong(t, text+"nop\n", api.ErrOp, 3+n, 0)
		wrong(t, text+"func g 1 0\n", api.ErrCode, 2, 0)
		wrong(t, text+"func f 1 0\n", api.ErrCode, 2, 0)
		wrong(t, "widen\nfunc e 1 0\nret 1\n"+text[6:], api.ErrCode, 4, 0)
	}
}

// P10.2, 2: modules that may not be, but whose text can be written: the error of code.May, at the line that has what it speaks of.
func TestMayOfModules(t *testing.T) {
	for _, m := range faulty() {
		want := code.May(m)
		s, line, ok := plain(m, want)
		if !ok {
			continue
		}
		if _, e, l, at := asm.Parse(s); e != want.E || l != line || at != 0 {
			t.Errorf("Parse(%.300q): %d at %d, %d; not %d at %d, 0", s, e, l, at, want.E, line)
		}
	}
}

// plain writes a module as the form has it, whether it may be or not, and tells the line that a fault speaks of. It can't write one whose Name is more or less than a word, or that has something in a field that isn't written.
func plain(m api.Module, f api.Fault) (string, int, bool) {
	var all []string
	add := func(words ...any) { all = append(all, strings.TrimSuffix(fmt.Sprintln(words...), "\n")) }
	add(strings.TrimSuffix("widen "+strings.Trim(fmt.Sprint(m.Thresholds), "[]"), " "))
	line := 1
	for number, g := range m.Funcs {
		if strings.ContainsAny(g.Name, " \n") {
			return "", 0, false
		}
		words := []any{"func", g.Name, g.Regs, g.Words}
		for _, p := range g.Params {
			words = append(words, p.Lo, p.Hi)
		}
		add(words...)
		here := len(m.Thresholds) < 17 && number == f.Func && f.E != api.ErrOrder
		if here {
			line = len(all)
		}
		for i, x := range g.Code {
			if f.E == api.ErrOp || f.E == api.ErrUnused {
				return "", 0, false
			}
			words := []any{operations[x.Op].word}
			for _, field := range operations[x.Op].fields {
				words = append(words, map[rune]int64{'A': int64(x.A), 'B': int64(x.B), 'C': int64(x.C), 'N': x.N}[field])
			}
			add(words...)
			if here && i == f.At && strings.Contains(" 61 63 64 65 2 ", fmt.Sprint(" ", int(f.E), " ")) {
				line = len(all)
			}
		}
	}
	return strings.Join(all, "\n") + "\n", line, true
}
