package asm_test

import (
	"fmt"
	"slices"
	"strings"
	"testing"

	"soffit/api"
)

// page is a text, line by line and word by word, so that several things can be done to it.
type page struct {
	lines [][]string
	open  bool // the last line isn't ended
}

// base has an instruction of each operation, and a function behind it without parameters and one with.
func base() *page {
	const text = `widen -3 0 70
func f 14 5 0 9 -1 1
set 1 -50
move 2 13
add 3 4 5
sub 13 12 11
mul 6 7 8
div 10 10 10
rem 0 1 2
less 9 8 7
equal 1 2 3
not 12 11
load 5 4 -33
store 5 4 33
check 3 4096
jump 14
if 2 15
unless 3 16
count 4 5 17
step 6 0
call 7 8 2
ret 12
func g 1 0
ret 0
func h 12 4096 -10 10
call 11 0 2
step 11 0
`
	p := &page{}
	for _, line := range strings.Split(strings.TrimSuffix(text, "\n"), "\n") {
		p.lines = append(p.lines, strings.Split(line, " "))
	}
	return p
}

func (p *page) text() string {
	var all []string
	for _, l := range p.lines {
		all = append(all, strings.Join(l, " "))
	}
	s := strings.Join(all, "\n")
	if p.open {
		return s
	}
	return s + "\n"
}

// at is the place at which a word of a line begins.
func (p *page) at(line, word int) int {
	n := 0
	for _, s := range p.lines[line][:word] {
		n += len(s) + 1
	}
	return n
}

// slip is one thing that is done wrong to the words of a text: on which line, and at which word; and the error and the place that it has then.
type slip struct {
	what       string
	line, word int
	do         func(p *page)
	e          api.Errno
	at         func(p *page) int
}

func (s slip) key() [2]int { return [2]int{s.line, s.word} }

// put has another word in place of one.
func put(line, word int, with string, e api.Errno) slip {
	return slip{fmt.Sprintf("line %d, word %d: %q", line+1, word, with), line, word, func(p *page) { p.lines[line][word] = with }, e, func(p *page) int { return p.at(line, word) }}
}

// cut leaves so many words of a line alone.
func cut(line, words int) slip {
	return slip{fmt.Sprintf("line %d, %d words alone", line+1, words), line, words, func(p *page) { p.lines[line] = p.lines[line][:words] }, api.ErrShort, func(p *page) int { return p.at(line, words) - 1 }}
}

// more has one more word at the end of a line that has so many.
func more(line, words int, with string, e api.Errno, at func(p *page) int) slip {
	return slip{fmt.Sprintf("line %d, and %q", line+1, with), line, words, func(p *page) { p.lines[line] = append(p.lines[line], with) }, e, at}
}

// lineSlips are those of one line, by the word at which they are.
func lineSlips(line int, words []string, firsts, numbers []string) []slip {
	var all []slip
	form := api.ErrOp
	if line < 2 {
		form = api.ErrForm
	}
	for _, s := range firsts {
		if s != words[0] && !(line > 1 && s == "func") {
			all = append(all, put(line, 0, s, form))
		}
	}
	last := func(p *page) int { return p.at(line, len(p.lines[line])-1) }
	for i := 1; i < len(words); i++ {
		if words[0] == "func" && (i < 4 || i%2 == 1) || line > 1 && words[0] != "func" {
			all = append(all, cut(line, i))
		}
		if words[0] == "func" && i == 1 {
			continue
		}
		for _, s := range numbers {
			all = append(all, put(line, i, s, api.ErrNumber))
		}
	}
	if words[0] == "widen" || words[0] == "func" {
		all = append(all, more(line, len(words), "x", api.ErrNumber, last), more(line, len(words), "", api.ErrNumber, last))
	} else {
		for _, s := range []string{"", "0", "x"} {
			all = append(all, more(line, len(words), s, api.ErrRest, func(p *page) int { return last(p) - 1 }))
		}
	}
	if words[0] == "func" {
		all = append(all, more(line, len(words), "5", api.ErrShort, func(p *page) int { return len(strings.Join(p.lines[line], " ")) }))
	}
	return all
}

// slips are those of all lines, in order, the end that is missing last.
func slips(firsts, numbers []string) []slip {
	var all []slip
	p := base()
	for i, words := range p.lines {
		all = append(all, lineSlips(i, words, firsts, numbers)...)
	}
	last := len(p.lines) - 1
	return append(all, slip{"no end", last, 99, func(p *page) { p.open = true }, api.ErrShort, func(p *page) int { return len(strings.Join(p.lines[last], " ")) }})
}

var (
	wrongFirsts  = []string{"", "x", "w", "wide", "widen", "widenx", "Widen", "WIDEN", "fun", "func", "funcs", "Func", "fn", "re", "rets", "nop", "0", "7", "-1", "Ret", "r", "\r", "\t", "\x00", "\xff", "ret\r", "opret", "jmp"}
	wrongNumbers = []string{"", "x", "-", "+", "--1", "-0", "+0", "+5", "00", "007", "-01", "1_0", "0x1", "1e3", "1.", ".", "1-", "5\r", "\t5", "5\x00", "\xff", "9223372036854775808", "-9223372036854775809", "18446744073709551616", "18446744073709551617", "99999999999999999999999999", "00000000000000000000000000", "ret", "func", "\u0663"}
)

func holds(t *testing.T, what string, p *page, s slip) {
	t.Helper()
	if wrong(t, p.text(), s.e, s.line+1, s.at(p)); t.Failed() {
		t.Fatal(what)
	}
}

// P10.2, 1: each error alone, on each line and at each word of it.
func TestAlone(t *testing.T) {
	back(t, base().text())
	told := map[api.Errno]int{}
	for _, s := range slips(wrongFirsts, wrongNumbers) {
		p := base()
		s.do(p)
		holds(t, s.what, p, s)
		told[s.e]++
	}
	if len(told) != 5 {
		t.Errorf("errors that were met: %v", told)
	}
}

// P10.2, 1: of any two things that are wrong the first one from the left, on the first line of those that are wrong.
func TestFirst(t *testing.T) {
	all := slips([]string{"x", ""}, []string{"x", "", "9223372036854775808"})
	for i, first := range all {
		for _, second := range all[i+1:] {
			if first.key() == second.key() {
				continue
			}
			p := base()
			second.do(p)
			first.do(p)
			holds(t, first.what+"; and "+second.what, p, first)
		}
	}
}

// P10.2, 1: with all that is wrong from one thing on, that one is told.
func TestAllBehind(t *testing.T) {
	all := slips([]string{"x"}, []string{"x"})
	for i, first := range all {
		p := base()
		for _, second := range slices.Backward(all[i+1:]) {
			if first.key() != second.key() && (second.e != api.ErrShort || second.line != first.line) {
				second.do(p)
			}
		}
		first.do(p)
		holds(t, first.what+", and all behind it", p, first)
	}
}

// P10.2, 1: the first word of the first line, of the second one and of those behind: which may stand there.
func TestFirstWords(t *testing.T) {
	words := append([]string{"widen", "func"}, wrongFirsts...)
	for _, o := range operations {
		words = append(words, o.word)
	}
	for _, w := range words {
		if w != "widen" {
			wrong(t, w+"\n", api.ErrForm, 1, 0)
			wrong(t, w+" 0\nfunc f 1 0\nret 0\n", api.ErrForm, 1, 0)
		}
		if w != "func" {
			wrong(t, "widen\n"+w+"\n", api.ErrForm, 2, 0)
			wrong(t, "widen\n"+w+" f 1 0\nret 0\n", api.ErrForm, 2, 0)
			wrong(t, "widen\n"+w+" 0 0 0\n", api.ErrForm, 2, 0)
		}
		if w == "func" || slices.ContainsFunc(operations, func(o struct{ word, fields string }) bool { return o.word == w }) {
			wrong(t, "widen\nfunc f 1 0\n"+w+"\n", api.ErrShort, 3, len(w))
			wrong(t, "widen\nfunc f 1 0\nret 0\n"+w+"\n", api.ErrShort, 4, len(w))
			continue
		}
		wrong(t, "widen\nfunc f 1 0\n"+w+"\n", api.ErrOp, 3, 0)
		wrong(t, "widen\nfunc f 1 0\nret 0\n"+w+"\n", api.ErrOp, 4, 0)
		wrong(t, "widen\nfunc f 1 0\nret 0\nfunc g 1 0\n"+w+" 0 0\nret 0\n", api.ErrOp, 5, 0)
	}
}
