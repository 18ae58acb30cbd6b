package asm

import (
	"strconv"
	"strings"

	"soffit/api"
	"soffit/code"
)

// The first words of the lines that are no instruction's.
const (
	widenWord = "widen"
	funcWord  = "func"
)

// textOf tells that of a module that may be.
func textOf(m api.Module) string {
	var all strings.Builder
	all.WriteString(lineOf(widenWord, m.Thresholds...))
	for _, f := range m.Funcs {
		all.WriteString(lineOf(funcWord+" "+f.Name, headNumbers(f)...))
		for _, x := range f.Code {
			all.WriteString(lineOf(code.Word(x.Op), numbersOf(x)...))
		}
	}
	return all.String()
}

// lineOf tells a line that begins so, and goes on with numbers.
func lineOf(begin string, numbers ...int64) string {
	for _, n := range numbers {
		begin += " " + strconv.FormatInt(n, 10)
	}
	return begin + "\n"
}

// headNumbers tells those of the line on which a function begins.
func headNumbers(f api.Func) []int64 {
	all := []int64{int64(f.Regs), int64(f.Words)}
	for _, p := range f.Params {
		all = append(all, p.Lo, p.Hi)
	}
	return all
}
