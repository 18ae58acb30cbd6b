package mean_test

import (
	"math/big"
	"strings"
	"testing"

	"soffit/api"
)

var edges = []int64{least, least + 1, least + 2, -1 << 32, -1<<31 - 1, -3037000500, -10, -3, -2, -1, 0, 1, 2, 3, 7, 10, 1 << 31, 3037000499, 1 << 32, 1 << 62, greatest - 1, greatest}

// round brings a number round modulo 2^64.
func round(x *big.Int) int64 {
	m := new(big.Int).Lsh(big.NewInt(1), 64)
	y := new(big.Int).Mod(x, m)
	if y.Bit(63) == 1 {
		y.Sub(y, m)
	}
	return y.Int64()
}

func truth(is bool) *big.Int {
	if is {
		return big.NewInt(1)
	}
	return big.NewInt(0)
}

// two is the chapter's table of what is worked out of two values, in whole numbers without end.
func two(kind int, x, y *big.Int) (*big.Int, api.Errno) {
	z := new(big.Int)
	switch kind {
	case api.ExprAdd:
		return z.Add(x, y), api.OK
	case api.ExprSub:
		return z.Sub(x, y), api.OK
	case api.ExprMul:
		return z.Mul(x, y), api.OK
	case api.ExprDiv, api.ExprRem:
		if y.Sign() == 0 {
			return nil, api.TrapDivide
		}
		if kind == api.ExprDiv {
			return z.Quo(x, y), api.OK
		}
		return z.Sub(x, z.Mul(y, z.Quo(x, y))), api.OK
	case api.ExprEq:
		return truth(x.Cmp(y) == 0), api.OK
	case api.ExprNe:
		return truth(x.Cmp(y) != 0), api.OK
	case api.ExprLt:
		return truth(x.Cmp(y) < 0), api.OK
	case api.ExprLe:
		return truth(x.Cmp(y) <= 0), api.OK
	case api.ExprGt:
		return truth(x.Cmp(y) > 0), api.OK
	case api.ExprGe:
		return truth(x.Cmp(y) >= 0), api.OK
	}
	panic("no such kind")
}

var signs = map[int]string{
	api.ExprAdd: "+", api.ExprSub: "-", api.ExprMul: "*", api.ExprDiv: "/", api.ExprRem: "%",
	api.ExprEq: "==", api.ExprNe: "!=", api.ExprLt: "<", api.ExprLe: "<=", api.ExprGt: ">", api.ExprGe: ">=",
}

// P6.1: each expression of two values that are worked out always, at all edges; the values as numbers, variables and words, since each may come so.
func TestTwo(t *testing.T) {
	for kind, sign := range signs {
		for _, x := range edges {
			for _, y := range edges {
				v, e := two(kind, big.NewInt(x), big.NewInt(y))
				want := api.Meaning{E: e, Rounds: 1}
				if e == api.OK {
					want.V = round(v)
				}
				comes(t, "fn f() { return "+num(x)+" "+sign+" "+num(y)+"; }", want)
				comes(t, "fn f() { let t[2]; let x = "+num(x)+"; t[1] = "+num(y)+"; x = x "+sign+" t[1]; return x; }", want)
			}
		}
	}
}

// P6.1: some of these by number, so that not all hang on one model.
func TestByNumber(t *testing.T) {
	for text, v := range map[string]int64{
		"9223372036854775807 + 1": least, "-9223372036854775807 - 2": greatest, "9223372036854775807 * 2": -2, "9223372036854775807 * 9223372036854775807": 1, "4294967296 * 4294967296": 0, "4294967296 * 2147483648": least,
		num(least) + " / -1": least, num(least) + " % -1": 0, num(least) + " * -1": least, "-" + num(least): least, num(least) + " - 1": greatest, num(least) + " / 1": least, num(least) + " % 2": 0, num(least) + " / 2": -1 << 62, num(least) + " % 9223372036854775807": -1, num(least) + " / 9223372036854775807": -1,
		"7 / 2": 3, "-7 / 2": -3, "7 / -2": -3, "-7 / -2": 3, "7 % 2": 1, "-7 % 2": -1, "7 % -2": 1, "-7 % -2": -1, "6 % 3": 0, "-6 % 3": 0, "0 / 5": 0, "0 % -5": 0, "1 / 2": 0, "-1 / 2": 0, "-1 % 2": -1,
		"0 - 9223372036854775807 - 1": least, "3 - 5": -2, "5 - 3": 2, "2 + 3 * 4": 14, "(2 + 3) * 4": 20,
		num(least) + " < 9223372036854775807": 1, "9223372036854775807 < " + num(least): 0, num(least) + " <= " + num(least): 1, num(least) + " < " + num(least): 0, "9223372036854775807 >= 9223372036854775807": 1, "9223372036854775807 > " + num(least): 1, num(least) + " == " + num(least): 1, num(least) + " != 0": 1, "0 == 4294967296": 0, "0 != 4294967296": 1,
		"-5": -5, "--5": 5, "-0": 0, "!0": 1, "!1": 0, "!-1": 0, "!2": 0, "!!2": 1, "!4294967296": 0, "!" + num(least): 0, "-9223372036854775807": -greatest,
		"9223372036854775807": greatest, "0": 0,
	} {
		value(t, "fn f() { return "+text+"; }", v, 1)
		value(t, "fn f() { let x = "+text+"; return x; }", v, 1)
	}
}

// P6.1: each expression of one value, at all edges.
func TestOne(t *testing.T) {
	for _, x := range edges {
		value(t, "fn f() { return -"+num(x)+"; }", round(new(big.Int).Neg(big.NewInt(x))), 1)
		value(t, "fn f() { return !"+num(x)+"; }", truth(x == 0).Int64(), 1)
		value(t, "fn f() { let x = "+num(x)+"; return -x; }", round(new(big.Int).Neg(big.NewInt(x))), 1)
		value(t, "fn f() { return "+num(x)+"; }", x, 1)
	}
}

// P6.1: &&, || and a choice, of all edges: what counts is whether it is 0, in all of its 64 bits; && and || are 1 or 0, a choice is what was chosen.
func TestChoices(t *testing.T) {
	for _, x := range edges {
		value(t, "fn f() { return "+num(x)+" ? 5 : 6; }", 6-truth(x != 0).Int64(), 1)
		value(t, "fn f() { return 1 ? "+num(x)+" : 1 / 0; }", x, 1)
		value(t, "fn f() { return 0 ? 1 / 0 : "+num(x)+"; }", x, 1)
		for _, y := range edges {
			value(t, "fn f() { return "+num(x)+" && "+num(y)+"; }", truth(x != 0 && y != 0).Int64(), 1)
			value(t, "fn f() { return "+num(x)+" || "+num(y)+"; }", truth(x != 0 || y != 0).Int64(), 1)
		}
	}
}

// P6.1: what is not worked out takes no round, and traps by nothing.
func TestNotWorkedOut(t *testing.T) {
	head := "fn g(a in 0..9) { return a; } fn f() { let t[2]; "
	for _, never := range []string{"1 / 0", "1 % 0", "t[2]", "t[-1]", "g(10)", "g(1)", "g(g(1))", "-(1 / 0)", "1 + t[7]", "0 || 1 / 0"} {
		for text, v := range map[string]int64{
			"0 && $": 0, "1 || $": 1, "7 || $": 1, "0 && $ && $": 0, "1 || $ || $": 1, "0 && ($ || $)": 0, "1 || $ && $": 1, "0 && $ || 3": 1, "(1 || $) && 2": 1,
			"1 ? 5 : $": 5, "0 ? $ : 6": 6, "-3 ? 5 : $": 5, "1 ? 0 ? $ : 8 : $": 8, "0 ? $ : 1 ? 9 : $": 9, "(0 && $) ? $ : 4": 4, "!(1 || $)": 0, "-(0 && $)": 0, "t[0 && $]": 0, "g(1 ? 3 : $) * 0 + 1": 1,
		} {
			rounds := int64(1)
			if strings.HasPrefix(text, "g(") {
				rounds = 2
			}
			text = strings.ReplaceAll(text, "$", "("+never+")")
			value(t, head+"return "+text+"; }", v, rounds)
			value(t, head+"let x = "+text+"; return x; }", v, rounds)
		}
		for text, v := range map[string]int64{
			"if 0 { return $; } return 3;": 3, "if 1 { } else { return $; } return 4;": 4, "if -1 { return 5; } else { return $; }": 5, "if 0 { return $; } else { return 6; }": 6,
			"switch 3 { case 1 { return $; } case 2 { return $; } } return 7;": 7, "switch 2 { case 1 { return $; } case 2 { return 8; } else { return $; } }": 8, "switch 0 { case 1 { return $; } else { return 9; } }": 9,
			"for i in 0..0 { return $; } return 2;": 2, "for i in 5..4 { return $; } return 2;": 2, "return 3; return $;": 3, "if 1 { return 4; } return $;": 4,
		} {
			value(t, head+strings.ReplaceAll(text, "$", never)+" }", v, 1)
		}
	}
}

// P6.1: arguments are worked out in their order, all of them where nothing else is said: of two traps the first one is told, and calls ahead of a trap have begun their rounds.
func TestOrder(t *testing.T) {
	head := "fn id(a in 0..9) { return a; } fn three(a in 0..9, b in 0..9, c in 0..9) { return a * 100 + b * 10 + c; } fn f() { let t[3]; "
	traps := map[string]api.Errno{"(1 / 0)": api.TrapDivide, "(1 % 0)": api.TrapDivide, "t[3]": api.TrapIndex, "t[-1]": api.TrapIndex, "id(10)": api.TrapArg, "id(-1)": api.TrapArg}
	for first, e := range traps {
		for second, e2 := range traps {
			for _, sign := range signs {
				trap(t, head+"return "+first+" "+sign+" "+second+"; }", e, 1)
				trap(t, head+"return id(1) "+sign+" "+second+"; }", e2, 2)
				trap(t, head+"return 0 "+sign+" "+second+"; }", e2, 1) // nothing is spared by a 0
				trap(t, head+"return "+first+" "+sign+" id(1); }", e, 1)
				trap(t, head+"return id(id(2)) "+sign+" ("+first+" "+sign+" id(1)); }", e, 3)
			}
			for _, text := range []string{"1 && $", "0 || $", "5 && $", "0 || 0 || $", "1 ? $ : 2", "0 ? 2 : $", "-$", "!$", "t[$]", "id($)", "three($, #, #)", "three(1, $, #)", "three(1, 2, $)", "$ && #", "$ || #", "$ ? # : #", "1 ? $ : #", "0 ? # : $", "t[$ + #]", "three(10, $, #)"} {
				text = strings.ReplaceAll(strings.ReplaceAll(text, "$", first), "#", second)
				trap(t, head+"return "+text+"; }", e, 1)
				trap(t, head+"let x = "+text+"; return id("+second+"); }", e, 1)
				trap(t, head+"if "+text+" { } return "+second+"; }", e, 1)
			}
			trap(t, head+"return three(id(1), id(2), "+first+"); }", e, 3)
			trap(t, head+"return three("+first+", id(1), id(2)); }", e, 1)
			trap(t, head+"return three(id(1), "+first+", id(2)); }", e, 2)
			trap(t, head+"return three(id(1), 10, "+first+"); }", e, 2) // an argument is held to its range behind all of them
			trap(t, head+"t["+first+"] = "+second+"; }", e, 1)
			trap(t, head+"t[id(2)] = "+second+"; }", e2, 2)
			trap(t, head+"t[id(3)] = id(1); }", api.TrapIndex, 2)
			trap(t, head+"t[3] = "+second+"; }", api.TrapIndex, 1)
			trap(t, head+"t[-1] = "+second+"; }", api.TrapIndex, 1)
			trap(t, head+"t[2] = "+second+"; }", e2, 1)
		}
	}
	value(t, head+"return three(1, 2, 3); }", 123, 2)
	value(t, head+"return three(id(1), id(id(2)), id(3)); }", 123, 6)
	trap(t, head+"return three(1, 2, 10); }", api.TrapArg, 1)
	trap(t, head+"return three(1, -1, 3); }", api.TrapArg, 1)
	trap(t, head+"return id(id(id(10))); }", api.TrapArg, 1)
	trap(t, head+"return id(id(id(9)) + 1); }", api.TrapArg, 3)
}
