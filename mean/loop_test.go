package mean_test

import (
	"fmt"
	"strings"
	"testing"

	"soffit/api"
)

// P6.1: which rounds a loop has, at both ends of the numbers too.
func TestRounds(t *testing.T) {
	for _, c := range []struct{ a, b int64 }{
		{0, 0}, {0, 1}, {0, 3}, {1, 3}, {3, 3}, {4, 3}, {3, 1}, {-3, 3}, {-3, -1}, {-1, -3}, {-1, -1}, {-1, 0}, {5, -5},
		{greatest - 3, greatest}, {greatest - 1, greatest}, {greatest, greatest}, {greatest, greatest - 1}, {greatest, 0}, {greatest, least}, {greatest, -greatest}, {0, least}, {1, least}, {0, -greatest},
		{least, least}, {least, least + 1}, {least, least + 3}, {least + 1, least}, {-greatest, -greatest}, {-greatest, 3 - greatest}, {-greatest, least},
	} {
		rounds := int64(0)
		if c.a < c.b {
			rounds = c.b - c.a
		}
		sum, row := int64(0), int64(0)
		for i := range rounds {
			sum += c.a + i
			row = row*3 + (c.a + i)
		}
		src := "fn f() { let s = 0; let r = 0; for i in " + num(c.a) + ".." + num(c.b) + " { s = s + i; r = r * 3 + i; } return "
		value(t, src+"s; }", sum, 1+rounds)
		value(t, src+"r; }", row, 1+rounds)
		if c.a != least && c.b != least {
			src = fmt.Sprintf("fn f(a in %d..%d, b in %d..%d) { let r = 0; for i in a..b { r = r * 3 + i; } return r; }", c.a, c.a, c.b, c.b)
			value(t, src, row, 1+rounds, c.a, c.b)
		}
	}
	// A loop of more rounds than anybody waits for ends by ErrLong, or by a break.
	for _, c := range []struct{ a, b int64 }{{least, greatest}, {0, greatest}, {least, 0}, {-greatest, greatest}, {-5, greatest}} {
		src := "fn f() { for i in " + num(c.a) + ".." + num(c.b) + " { "
		for _, most := range []int64{0, 1, 2, 1000, 100000} {
			asked(t, read(t, src+"} }"), "f", nil, most, api.Meaning{E: api.ErrLong, Rounds: most})
		}
		value(t, src+"if i == "+num(c.a+9)+" { break; } } return 7; }", 7, 11)
		value(t, src+"if i == "+num(c.a+9)+" { return i; } } return 7; }", c.a+9, 11)
	}
}

// P6.1: bounds are worked out once, A ahead of B, with what they name as it is when the loop begins, in each beginning anew.
func TestBounds(t *testing.T) {
	value(t, "fn f(n in 0..9) { let r = 0; for i in 0..n { n = 0; r = r + 1; } return r * 10 + n; }", 40, 5, 4)
	value(t, "fn f(n in 0..9) { let r = 0; for i in 0..n { n = n + 5; r = r + 1; } return r * 100 + n; }", 424, 5, 4)
	value(t, "fn f(n in 0..9) { let r = 0; for i in n..6 { n = 100; r = r * 10 + i; } return r; }", 345, 4, 3)
	value(t, "fn f(n in 0..9) { let r = 0; n = 2; for i in 0..n { r = r + 1; } n = 7; for i in 0..n { r = r + 10; } return r; }", 72, 10, 4)
	value(t, "fn f(n in 0..9) { let r = 0; for i in 0..3 { for j in 0..n { n = n + 1; r = r + 1; } } return r; }", 14, 1+3+14, 2)
	value(t, "fn f(n in 0..9, m in 0..9) { let r = 0; for i in n - m..n * m + -1 { r = r * 10 + i + 5; } return r; }", 456789, 1+6, 2, 3)
	value(t, "fn f() { let r = 0; for i in 0..4 { for j in 0..i { for k in j..i { r = r + i * 100 + j * 10 + k; } } } return r; }", 100+612+1848, 1+4+6+1+3+6)
	value(t, "fn f() { let r = 0; for i in 0..3 { let x = i; x = x + 10; r = r * 100 + x; } return r; }", 101112, 4) // a copy of the loop's variable may be written
}

// P6.1: a loop's variable is the round's number, whatever lies within, also another loop of the same name elsewhere.
func TestVariable(t *testing.T) {
	value(t, "fn f() { let r = 0; for i in 1..4 { for j in 5..7 { r = r * 10 + i; } r = r * 10 + i; } return r; }", 111222333, 1+3+6)
	value(t, "fn f() { let r = 0; for i in 1..3 { r = r * 10 + i; } for i in 4..6 { r = r * 10 + i; } for j in 0..1 { for i in 7..8 { r = r * 10 + i; } } return r; }", 12457, 7)
	value(t, "fn g(i in 0..9) { for j in 0..i { i = 0; } return 5; } fn f() { let r = 0; for i in 1..4 { r = r * 10 + i; g(i); } return r; }", 123, 1+3+3+6)
	value(t, "fn g() { for i in 5..9 { } } fn f() { let r = 0; for i in 1..4 { g(); r = r * 10 + i; } return r; }", 123, 1+3+3+12)
}

// P6.1: a break leaves the innermost loop around it, no other one, at once, from whatever lies within.
func TestBreak(t *testing.T) {
	for _, c := range []struct {
		at           string
		last, behind int64 // the rounds begun, and how often what stands behind it is done
	}{
		{"break;", 1, 0}, {"if i == 2 { break; }", 3, 2}, {"if i < 2 { } else { break; }", 3, 2}, {"switch i { case 3 { break; } }", 4, 3}, {"switch i { case 0 { } case 1 { } else { break; } }", 3, 2}, {"if i > 0 { switch i { case 1 { } else { if i == 4 { break; } } } }", 5, 4},
		{"if i == 9 { break; }", 6, 6}, {"if i == 5 { break; }", 6, 5}, {"if 1 { if 1 { if i == 1 { break; } } }", 2, 1}, {"switch i { case 1 { if 1 { switch i { case 1 { break; } } } } }", 2, 1},
	} {
		last, behind := c.last, c.behind
		src := "for i in 0..6 { r = r + 1; " + c.at + " r = r + 100; } "
		value(t, "fn f() { let r = 0; "+src+"return r; }", last+100*behind, 1+last)
		value(t, "fn f() { let r = 0; "+src+src+"return r; }", 2*(last+100*behind), 1+2*last)
		value(t, "fn f() { let r = 0; for k in 0..3 { r = r + 10000; "+src+"r = r + 1000000; } return r; }", 3*(1010000+last+100*behind), 1+3+3*last)
		value(t, "fn f() { let r = 0; for k in 0..3 { for l in 0..2 { "+src+"} r = r + 10000; } return r; }", 3*10000+6*(last+100*behind), 1+3+6+6*last)
		value(t, "fn g() { let r = 0; "+src+"return r; } fn f() { let s = 0; for i in 0..3 { s = s + g(); } return s; }", 3*(last+100*behind), 1+3+3+3*last)
	}
	value(t, "fn f() { let r = 0; for i in 0..3 { for j in 0..3 { if j == 1 { break; } r = r + 10; } r = r + 1; } return r; }", 33, 10)
	value(t, "fn f() { let r = 0; for i in 0..3 { for j in 0..3 { r = r + 10; } r = r + 1; if i == 1 { break; } } return r; }", 62, 1+2+6) // behind a loop within: the one around is left
	value(t, "fn f() { let r = 0; for i in 0..5 { for j in 0..5 { for k in 0..5 { if k == 1 { break; } r = r + 1; } if j == 2 { break; } r = r + 100; } if i == 3 { break; } r = r + 10000; } return r; }", 4*3+4*2*100+3*10000, 1+4+12+24)
	value(t, "fn f() { let r = 0; for i in 0..2 { for j in 0..4 { if j == 2 { break; } else { r = r + 1; } break; } } return r; }", 2, 1+2+2)
	value(t, "fn f() { for i in 0..3 { break; } for i in 0..2 { } return 1; }", 1, 4)
	value(t, "fn f() { if 1 { for i in 0..3 { break; } return 2; } return 1; }", 2, 2) // the if around the loop goes on
	value(t, "fn f() { let r = 0; switch 1 { case 1 { for i in 0..3 { if i { break; } } r = 3; } else { r = 4; } } return r; }", 3, 3)
}

// P6.1: the rounds of calls, wherever they stand; TrapArg comes ahead of the round that the call would begin.
func TestCalls(t *testing.T) {
	head := "fn none() { } fn one(a in 0..9) { return a + 1; } fn two(a in 0..9, b in 0..9) { return one(a) * 10 + one(b); } "
	for text, want := range map[string]api.Meaning{
		"none();":                            {Rounds: 2},
		"one(3);":                            {Rounds: 2},
		"two(3, 4);":                         {Rounds: 4},
		"return two(3, 4);":                  {V: 45, Rounds: 4},
		"return one(one(one(1)));":           {V: 4, Rounds: 4},
		"return two(one(1), two(0, 0) - 8);": {V: 34, Rounds: 8},
		"return one(1) + one(2) * one(3);":   {V: 14, Rounds: 4},
		"let t[5]; t[one(1)] = one(2); return t[one(1)];":                {V: 3, Rounds: 4},
		"let r = 0; for i in 0..3 { r = r + one(i); } return r;":         {V: 6, Rounds: 7},
		"if none() { return 1; } else { return one(6); }":                {V: 7, Rounds: 3},
		"switch one(2) { case 3 { return none(); } else { return 5; } }": {Rounds: 3},
		"return one(10);":                         {E: api.TrapArg, Rounds: 1},
		"return two(0, 10);":                      {E: api.TrapArg, Rounds: 1},
		"return two(one(9), 10);":                 {E: api.TrapArg, Rounds: 2},
		"return one(one(9));":                     {E: api.TrapArg, Rounds: 2},
		"return none() + one(-1);":                {E: api.TrapArg, Rounds: 2},
		"for i in 0..20 { one(i); } return 1;":    {E: api.TrapArg, Rounds: 1 + 11 + 10},
		"for i in 0..5 { one(1 / (i - 2) * 0); }": {E: api.TrapDivide, Rounds: 1 + 3 + 2},
		"return 3 && one(0);":                     {V: 1, Rounds: 2},
		"return 0 && one(0);":                     {Rounds: 1},
		"return one(0) || one(0);":                {V: 1, Rounds: 2},
		"return none() || one(0);":                {V: 1, Rounds: 3},
		"return none() ? one(1) : one(2);":        {V: 3, Rounds: 3},
	} {
		comes(t, head+"fn f() { "+text+" }", want)
	}
	// An argument is held to the range of the parameter that it is for, at both ends.
	for _, v := range []int64{least, -3, -2, -1, 0, 1, 2, 3, 4, greatest} {
		src := "fn g(a in -2..1, b in 1..3) { return a * 10 + b; } fn f() { return g("
		first, second := v >= -2 && v <= 1, v >= 1 && v <= 3
		for text, right := range map[string]bool{num(v) + ", 1": first, "0, " + num(v): second, num(v) + ", " + num(v): first && second} {
			if right {
				p := read(t, src+text+"); }")
				asked(t, p, "f", nil, 2, api.Meaning{V: map[string]int64{num(v) + ", 1": v*10 + 1, "0, " + num(v): v, num(v) + ", " + num(v): v*10 + v}[text], Rounds: 2})
			} else {
				trap(t, src+text+"); }", api.TrapArg, 1)
			}
		}
	}
}

// P6.1 and P6.2: where most ends a run, what stands ahead traps still, and what stands behind does not; TrapArg comes ahead of ErrLong.
func TestMostOrTrap(t *testing.T) {
	for _, c := range []struct {
		src  string
		most int64
		want api.Meaning
	}{
		{"fn f() { let x = 1 / 0; for i in 0..9 { } }", 1, api.Meaning{E: api.TrapDivide, Rounds: 1}},
		{"fn f() { let x = 1 / 0; for i in 0..9 { } }", 0, api.Meaning{E: api.ErrLong}},
		{"fn f() { for i in 0..9 { } let x = 1 / 0; }", 9, api.Meaning{E: api.ErrLong, Rounds: 9}},
		{"fn f() { for i in 0..9 { } let x = 1 / 0; }", 10, api.Meaning{E: api.TrapDivide, Rounds: 10}},
		{"fn f() { for i in 0..9 { let x = 1 / (i - 4); } }", 6, api.Meaning{E: api.TrapDivide, Rounds: 6}},
		{"fn f() { for i in 0..9 { let x = 1 / (i - 4); } }", 5, api.Meaning{E: api.ErrLong, Rounds: 5}},
		{"fn g(a in 0..1) { } fn f() { g(2); }", 1, api.Meaning{E: api.TrapArg, Rounds: 1}},
		{"fn g(a in 0..1) { } fn f() { g(1); }", 1, api.Meaning{E: api.ErrLong, Rounds: 1}},
		{"fn g(a in 0..1) { } fn f() { g(1); return 1 / 0; }", 1, api.Meaning{E: api.ErrLong, Rounds: 1}},
		{"fn g(a in 0..1) { } fn f() { g(1 / 0); }", 1, api.Meaning{E: api.TrapDivide, Rounds: 1}},
		{"fn g(a in 0..1) { } fn f() { g(g(0)); }", 2, api.Meaning{E: api.ErrLong, Rounds: 2}},
		{"fn g(a in 0..1) { } fn f() { let t[1]; t[g(0)] = 1 / 0; }", 2, api.Meaning{E: api.TrapDivide, Rounds: 2}},
		{"fn g(a in 0..1) { } fn f() { let t[1]; t[1] = g(0); }", 1, api.Meaning{E: api.TrapIndex, Rounds: 1}},
		{"fn f() { return 5; }", 1, api.Meaning{V: 5, Rounds: 1}},
		{"fn f() { return 5; for i in 0..9 { } }", 1, api.Meaning{V: 5, Rounds: 1}},
		{"fn f() { for i in 0..9 { break; } return 5; }", 2, api.Meaning{V: 5, Rounds: 2}},
		{"fn f() { for i in 0..9 { break; } return 5; }", 1, api.Meaning{E: api.ErrLong, Rounds: 1}},
		{"fn f() { for i in 0..0 { } return 5; }", 1, api.Meaning{V: 5, Rounds: 1}}, // no round would begin
		{"fn f() { for i in 0..2 { } return 5; }", 3, api.Meaning{V: 5, Rounds: 3}},
		{"fn f() { for i in 0..2 { } for i in 0..0 { } return 5; }", 3, api.Meaning{V: 5, Rounds: 3}},
	} {
		asked(t, read(t, c.src), "f", nil, c.most, c.want)
	}
}

// R1: what is as deep and as long as may be is run: as many functions as there may be, each calling the one ahead; expressions and statements at MaxDepth; as many words as statements allow.
func TestGreat(t *testing.T) {
	var row strings.Builder
	row.WriteString("fn f0(a in 0..99) { return a; }")
	for i := 1; i < api.MaxFuncs-1; i++ {
		fmt.Fprintf(&row, " fn f%d(a in 0..99) { return %s1 + f%d(a)%s; }", i, strings.Repeat("(0 + ", 14), i-1, strings.Repeat(")", 14))
	}
	value(t, row.String()+" fn f() { return f30(12); }", 42, 32)
	twice := strings.NewReplacer("1 + f", "f").Replace(row.String())
	value(t, twice+" fn f() { return f30(12) + f30(13); }", 25, 63)
	var both strings.Builder // each calls the one ahead twice: 2^12 calls of the first
	both.WriteString("fn f0() { return 1; }")
	for i := 1; i <= 12; i++ {
		fmt.Fprintf(&both, " fn f%d() { return f%d() + f%d(); }", i, i-1, i-1)
	}
	value(t, both.String()+" fn f() { return f12(); }", 1<<12, 1<<13)
	deep := strings.Repeat("for i$ in 0..1 { ", 30)
	for i := range 30 {
		deep = strings.Replace(deep, "$", fmt.Sprint(i), 1)
	}
	value(t, "fn f() { "+deep+"return 9; "+strings.Repeat("} ", 30)+"}", 9, 31)
	value(t, "fn f() { return "+strings.Repeat("-", 30)+"9; }", 9, 1)
	var arrays strings.Builder
	for i := range 1500 {
		fmt.Fprintf(&arrays, "let t%d[1024]; ", i)
	}
	value(t, "fn g() { "+arrays.String()+"t1499[1023] = t1499[1023] + 5; return t1499[1023] + t0[0]; } fn f() { let r = 0; for i in 0..2000 { r = r + g(); } return r; }", 10000, 4001)
	p := read(t, "fn f() { let s = 0; for i in 0..3000000 { s = s + i % 7; } return s; }")
	asked(t, p, "f", nil, greatest, api.Meaning{V: 8999994, Rounds: 3000001})
}
