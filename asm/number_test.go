package asm_test

import (
	"fmt"
	"math/big"
	"strings"
	"testing"

	"soffit/api"
	"soffit/asm"
)

// P10.2, R5: numbers where any may stand: all forms that are read, and such as other readers take.
func TestNumbers(t *testing.T) {
	for n, s := range map[int64]string{0: "0", 1: "1", -1: "-1", 9: "9", 10: "10", -10: "-10", 100: "100", 4294967296: "4294967296", most: mostText, most - 1: "9223372036854775806", least: leastText, least + 1: "-9223372036854775807"} {
		is(t, api.Module{Thresholds: []int64{n}}, "widen "+s+"\n")
		is(t, module(fn("f", 0, 1, api.Ins{Op: api.OpSet, N: n})), "widen\nfunc f 1 0\nset 0 "+s+"\nret 0\n")
		is(t, module(fn("f", 0, 1, api.Ins{Op: api.OpStore, N: n})), "widen\nfunc f 1 0\nstore 0 0 "+s+"\nret 0\n")
		is(t, module(api.Func{Name: "f", Regs: 1, Params: []api.Span{{Lo: n, Hi: n}}, Code: []api.Ins{{}}}), "widen\nfunc f 1 0 "+s+" "+s+"\nret 0\n")
	}
	for _, s := range wrongNumbers {
		wrong(t, "widen "+s+"\n", api.ErrNumber, 1, 6)
		wrong(t, "widen -5 "+s+" 7\n", api.ErrNumber, 1, 9)
		wrong(t, "widen\nfunc f "+s+" 0\nret 0\n", api.ErrNumber, 2, 7)
		wrong(t, "widen\nfunc f 1 "+s+"\nret 0\n", api.ErrNumber, 2, 9)
		wrong(t, "widen\nfunc f 1 0 "+s+" 1\nret 0\n", api.ErrNumber, 2, 11)
		wrong(t, "widen\nfunc f 1 0 -1 "+s+"\nret 0\n", api.ErrNumber, 2, 14)
		wrong(t, "widen\nfunc f 1 0 -1 1 0 "+s+"\nret 0\n", api.ErrNumber, 2, 18)
		for _, o := range operations {
			for i := range o.fields {
				words := strings.Fields(o.word + strings.Repeat(" 0", len(o.fields)))
				words[i+1] = s
				wrong(t, "widen\nfunc f 1 0\n"+strings.Join(words, " ")+"\nret 0\n", api.ErrNumber, 3, len(o.word)+1+2*i)
			}
		}
	}
}

// P10.2: at each number of a text, numbers at the ends of 64 bits and one beyond; and beyond those of 32 bits, of 65 and of more, which are not brought round.
func TestEndsOfNumbers(t *testing.T) {
	for line, words := range base().lines {
		for i := 1; i < len(words); i++ {
			if words[0] == "func" && i == 1 {
				continue
			}
			for _, s := range []string{mostText, leastText} {
				p := base()
				p.lines[line][i] = s
				if _, e, _, at := asm.Parse(p.text()); e == api.ErrNumber || at != 0 {
					t.Errorf("Parse(%q): %d, %d", p.text(), e, at)
				}
			}
			old, _ := new(big.Int).SetString(words[i], 10)
			for _, bits := range []uint{63, 64, 65, 96, 128, 256, 4000} {
				for _, sign := range []int64{1, -1} {
					n := new(big.Int).Lsh(big.NewInt(sign), bits)
					if n.IsInt64() {
						n.Sub(n, big.NewInt(1))
					}
					p := base()
					p.lines[line][i] = n.String()
					wrong(t, p.text(), api.ErrNumber, line+1, p.at(line, i))
					if n.Add(n, old); !n.IsInt64() {
						p.lines[line][i] = n.String()
						wrong(t, p.text(), api.ErrNumber, line+1, p.at(line, i))
					}
				}
			}
		}
	}
}

// P10.2: numbers of 64 bits in fields that hold small ones: they can be read, and it is code.May that refuses them.
func TestGreatFields(t *testing.T) {
	for _, s := range []string{mostText, leastText, "4294967296", "-4294967296", "18446744073709551", "256", "-1"} {
		wrong(t, "widen\nfunc f "+s+" 0\nret 0\n", api.ErrRegs, 2, 0)
		wrong(t, "widen\nfunc f 1 0\nret "+s+"\n", api.ErrReg, 3, 0)
		wrong(t, "widen\nfunc f 1 0\nadd 0 "+s+" 0\nret 0\n", api.ErrReg, 3, 0)
		wrong(t, "widen\nfunc f 1 0\nadd 0 0 "+s+"\nret 0\n", api.ErrReg, 3, 0)
		wrong(t, "widen\nfunc f 1 0\ncall 0 "+s+" 0\nret 0\n", api.ErrReg, 3, 0)
		wrong(t, "widen\nfunc f 1 0\ncall 0 0 "+s+"\nret 0\n", api.ErrCall, 3, 0)
		wrong(t, "widen\nfunc f 1 0\njump "+s+"\n", api.ErrJump, 3, 0)
		back(t, "widen\nfunc f 1 0\nset 0 "+s+"\nret 0\n")
	}
	for _, s := range []string{mostText, leastText, "4294967296", "4097", "-1"} {
		wrong(t, "widen\nfunc f 1 "+s+"\nret 0\n", api.ErrWords, 2, 0)
		wrong(t, "widen\nfunc f 1 0\ncheck 0 "+s+"\nret 0\n", api.ErrRange, 3, 0)
	}
}

// P10.2: words behind a function's Name: each number of them, with nothing behind, with a blank and with a line that isn't ended.
func TestHeadWords(t *testing.T) {
	line := "func f"
	for n := range 22 {
		// n numbers stand behind the Name.
		text := "widen\n" + line + "\nret 0\n"
		switch {
		case n < 2 || n%2 == 1:
			wrong(t, text, api.ErrShort, 2, len(line))
		case n > 18:
			wrong(t, text, api.ErrMany, 2, 0)
		default:
			back(t, text)
		}
		wrong(t, "widen\n"+line, api.ErrShort, 2, len(line))
		wrong(t, "widen\n"+line+" \nret 0\n", api.ErrNumber, 2, len(line)+1)
		wrong(t, "widen\n"+line+" x\nret 0\n", api.ErrNumber, 2, len(line)+1)
		line += fmt.Sprint(" ", 8+n)
	}
}

// P10.2: any word is read as a Name, also one that is empty, or begins a line elsewhere; which of them may be code.May tells.
func TestNames(t *testing.T) {
	for _, s := range []string{"f", "z9", "func", "widen", "fn", "for", "ret", "x0", fullName, "a" + strings.Repeat("0", 15)} {
		m := module(fn(s, 0, 1))
		is(t, m, "widen\nfunc "+s+" 1 0\nret 0\n")
	}
	for _, o := range operations {
		is(t, module(fn(o.word, 0, 1)), "widen\nfunc "+o.word+" 1 0\nret 0\n")
	}
	for _, s := range []string{"", "F", "0", "7", "-1", "a_b", "a-b", "\r", "f\r", "\t", "f\t", "\x00", "f\x00", "\xff", "\u00e4", "f\u00e4", fullName + "a", fullName + "0", strings.Repeat("a", 100000)} {
		wrong(t, "widen\nfunc "+s+" 1 0\nret 0\n", api.ErrName, 2, 0)
		wrong(t, "widen\nfunc e 1 0\nret 0\nfunc "+s+" 1 0\nret 0\n", api.ErrName, 4, 0)
		wrong(t, "widen\nfunc "+s+" 1 0\nret x\n", api.ErrNumber, 3, 4)
		wrong(t, "widen\nfunc "+s+"\nret 0\n", api.ErrShort, 2, 5+len(s))
		wrong(t, "widen\nfunc "+s+" 1\nret 0\n", api.ErrShort, 2, 7+len(s))
		wrong(t, "widen\nfunc "+s+" 1 0 \nret 0\n", api.ErrNumber, 2, 10+len(s))
	}
}
