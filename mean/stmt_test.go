package mean_test

import (
	"fmt"
	"strconv"
	"strings"
	"testing"

	"soffit/api"
)

// P6.1: locals, parameters and assignments: each variable has its own value, whatever another one of that name elsewhere has.
func TestVariables(t *testing.T) {
	value(t, "fn f(a in 0..9, b in 0..9) { let x = a; let y = b; a = y; b = x; return a * 100 + b * 10 + x - y; }", 737, 1, 4, 7)
	value(t, "fn f(a in 0..9) { a = a + 1; a = a * 100; return a; }", 1000, 1, 9) // a parameter may leave its range
	value(t, "fn f() { let x = 1; if 1 { let y = 2; x = x + y; } if 1 { let y = 3; x = x + y; } return x; }", 6, 1)
	value(t, "fn f() { let r = 0; for i in 0..3 { let x = 1; r = r * 10 + x; x = 5; } return r; }", 111, 4)
	value(t, "fn f() { let r = 0; for i in 0..3 { if i { let x = 7; r = r + x; } else { let x = 100; r = r + x; } } return r; }", 114, 4)
	value(t, "fn f() { if 1 { let x[2]; x[0] = 3; } let x = 5; return x; }", 5, 1) // one name of several kinds
	value(t, "fn f() { for x in 0..4 { } if 1 { let x = 9; } let x[1]; return x[0]; }", 0, 5)
	value(t, "fn f() { let r = 0; for i in 0..2 { for x in 5..6 { r = r + x; } if i { let x[1]; x[0] = 30; r = r + x[0]; } else { let x = 700; r = r + x; } } return r; }", 740, 5)
	value(t, "fn f(f in 0..9) { let g = f + 1; return g * f; }", 12, 1, 3)
	value(t, "fn g(a in 0..9) { a = a + 1; let x = a * 2; return x; } fn f(a in 0..9) { let x = 1000; x = x + g(a); return x * 10 + a; }", 10083, 2, 3)
	value(t, "fn g(a in 0..9) { let x = a; return x; } fn f() { let x = 5; let a = 6; return g(1) + x * 10 + a * 100; }", 651, 2)
}

// P6.1: a call ends at a return, or behind its last statement with 0, whatever was returned elsewhere ahead.
func TestReturns(t *testing.T) {
	value(t, "fn f() { }", 0, 1)
	value(t, "fn f() { let x = 5; }", 0, 1)
	value(t, "fn f() { return 5; }", 5, 1)
	value(t, "fn f() { return 5; return 6; }", 5, 1)
	value(t, "fn f() { return -9223372036854775807 - 1; }", least, 1)
	value(t, "fn g() { return 7; } fn f() { g(); }", 0, 2)
	value(t, "fn g() { return 7; } fn f() { let x = g(); }", 0, 2)
	value(t, "fn g() { return 7; } fn h() { g(); } fn f() { return h() + 1; }", 1, 3)
	value(t, "fn g() { return 7; } fn h() { for i in 0..1 { g(); } } fn f() { return g() * 10 + h(); }", 70, 5)
	value(t, "fn f() { if 0 { return 5; } }", 0, 1)
	value(t, "fn f() { if 1 { return 5; } return 6; }", 5, 1)
	value(t, "fn f() { if 0 { } else { return 5; } return 6; }", 5, 1)
	value(t, "fn f() { switch 2 { case 2 { return 5; } } return 6; }", 5, 1)
	value(t, "fn f() { switch 2 { else { return 5; } } return 6; }", 5, 1)
	value(t, "fn f() { for i in 0..9 { return i + 5; } return 6; }", 5, 2)
	value(t, "fn f() { for i in 0..9 { if i == 4 { return i; } } return 6; }", 4, 6)
	value(t, "fn f() { for i in 0..9 { for j in 0..9 { for k in 0..9 { if i * 100 + j * 10 + k == 123 { return 5; } } } } return 6; }", 5, 1+2+1*9+1*81+3+2*9+4) // through three loops at once
	value(t, "fn f() { for i in 0..9 { for j in 0..9 { return 5; } return 6; } return 7; }", 5, 3)
	value(t, "fn f() { for i in 0..9 { switch i { case 2 { if 1 { return i; } } } } return 7; }", 2, 4)
	value(t, "fn g() { for i in 0..9 { return i + 3; } } fn f() { let s = 0; for i in 0..4 { s = s + g(); } return s; }", 12, 1+4*3) // a return ends its own call, and no loop of its caller's
}

// P6.1: an if, of all edges, by Body and Else.
func TestIf(t *testing.T) {
	for _, x := range edges {
		is := truth(x != 0).Int64()
		value(t, "fn f() { let r = 1; if "+num(x)+" { r = 2; } return r; }", 1+is, 1)
		value(t, "fn f() { let r = 1; if "+num(x)+" { r = 2; } else { r = 3; } return r; }", 3-is, 1)
		value(t, "fn f() { let r = 1; if "+num(x)+" { } else { r = 3; } return r; }", 3-2*is, 1)
		value(t, "fn f() { let x = "+num(x)+"; if x { if !x { return 1; } else { return 2; } } else { if x { return 3; } else { return 4; } } }", 4-2*is, 1)
	}
}

// P6.1: a switch, by its cases, in any order and at both ends, and what none of them is.
func TestSwitch(t *testing.T) {
	cases := []int64{5, -1, 0, greatest, -greatest, 1, 4294967296}
	var text strings.Builder
	for i, n := range cases {
		fmt.Fprintf(&text, "case %d { r = r * 10 + %d; } ", n, i+1)
	}
	for _, x := range append([]int64{least, -2, 2, 4, 6, 4294967295, 4294967297, -4294967296, 1 << 40, greatest - 1, 1 - greatest}, cases...) {
		v, other := int64(1), int64(0)
		for i, n := range cases {
			if n == x {
				v, other = 10+int64(i+1), 10+int64(i+1)
			}
		}
		value(t, "fn f() { let r = 1; switch "+num(x)+" { "+text.String()+"} return r; }", v, 1)
		if other == 0 {
			other = -1
		}
		value(t, "fn f() { let r = 1; switch "+num(x)+" { "+text.String()+"else { r = -r; } } return r; }", other, 1)
	}
	value(t, "fn f() { let r = 1; switch 1 { case 1 { r = 2; } case 2 { r = 3; } } return r; }", 2, 1) // no case goes on into the next one
	value(t, "fn f() { let x = 1; switch x { case 1 { x = 2; } case 2 { x = 9; } else { x = 8; } } return x; }", 2, 1)
	value(t, "fn f() { switch 5 { } return 3; }", 3, 1)
	value(t, "fn f() { switch 5 { else { return 4; } } return 3; }", 4, 1)
	value(t, "fn g() { return 2; } fn f() { switch g() { case 1 { return 1; } case 2 { return 20; } case 3 { return 3; } else { return 4; } } }", 20, 2) // its value is worked out once
	value(t, "fn f() { let x = -9223372036854775807 - 1; switch x { case -9223372036854775807 { return 1; } case 9223372036854775807 { return 2; } case 0 { return 3; } } return 4; }", 4, 1)
	value(t, "fn f() { switch 1 { case 1 { switch 2 { case 1 { return 1; } case 2 { return 12; } } } case 2 { return 2; } } }", 12, 1)
}

// P6.1: an index, to be read and to be written, at both ends of an array and beyond.
func TestIndex(t *testing.T) {
	for _, size := range []int64{1, 2, 3, 1023, 1024} {
		for _, at := range append([]int64{size - 1, size, size + 1, -size, 1024, 1025, 1<<32 + size - 1, least + size}, edges...) {
			for text, v := range map[string]int64{
				"return t[$];": 0, "t[$] = 7; return t[$];": 7, "t[$] = 7; return 3;": 3, "t[$] = -1; t[0] = t[$] * 2; return t[0];": -2,
			} {
				src := "fn f() { let a[1]; let t[" + strconv.FormatInt(size, 10) + "]; let z[2]; a[0] = 5; z[0] = 6; z[1] = 6; " + strings.ReplaceAll(text, "$", num(at)) + " }"
				if at >= 0 && at < size {
					value(t, src, v, 1)
				} else {
					trap(t, src, api.TrapIndex, 1)
				}
			}
		}
	}
}

// P6.1: an array's words are its own, each one.
func TestWords(t *testing.T) {
	value(t, "fn f() { let a[3]; let b[3]; for i in 0..3 { a[i] = i + 1; b[i] = 10 * i + 10; } return a[0] + a[1] * 100 + a[2] * 10000 + b[0] * 1000000 + b[1] + b[2]; }", 10030251, 4)
	value(t, "fn f() { let t[1024]; for i in 0..1024 { t[i] = i * i; } let s = 0; for i in 0..1024 { s = s + t[i] - i * i + (t[1023 - i] == (1023 - i) * (1023 - i)); } return s; }", 1024, 2049)
	value(t, "fn f() { let t[2]; if 1 { let u[2]; u[0] = 3; t[0] = 4; } if 1 { let u[2]; return u[0] * 10 + t[0]; } }", 4, 1) // two of one name
	value(t, "fn f() { let t[2]; t[0] = 5; t[t[0] - 4] = t[0] + t[t[1]]; return t[1]; }", 10, 1)
	value(t, "fn f() { let t[3]; t[0] = 1; t[1] = 2; t[t[0]] = t[t[1]] + 7; return t[0] * 100 + t[1] * 10 + t[2]; }", 170, 1)
	value(t, "fn f() { let t[4]; t[3] = -9223372036854775807 - 1; return t[3] - 1; }", greatest, 1)
	for n := 1; n <= 40; n++ { // many arrays side by side
		var src strings.Builder
		for i := range n {
			fmt.Fprintf(&src, "let t%d[%d]; ", i, i%3+1)
		}
		for i := range n {
			fmt.Fprintf(&src, "t%d[%d] = t%d[%d] + %d; ", i, i%3, i, i%3, i+1)
		}
		src.WriteString("let s = 0; ")
		want := int64(0)
		for i := range n {
			fmt.Fprintf(&src, "s = s * 3 + t%d[%d]; ", i, i%3)
			want = want*3 + int64(i+1)
		}
		value(t, "fn f() { "+src.String()+"return s; }", want, 1)
	}
}

// P6.1: words stay in a loop's next round, each StmtArray's apart, also where it is passed by in between.
func TestWordsStay(t *testing.T) {
	value(t, "fn f() { let r = 0; for i in 0..5 { let t[2]; r = r * 10 + t[1]; t[1] = i + 1; } return r; }", 1234, 6)
	value(t, "fn f() { let r = 0; for i in 0..6 { if i % 2 { let t[1]; t[0] = t[0] + 1; r = t[0]; } else { let t[1]; t[0] = t[0] + 100; r = r + t[0]; } } return r; }", 3, 7)
	value(t, "fn f() { let r = 0; for i in 0..6 { if i % 2 { let t[1]; t[0] = t[0] + 1; r = r + t[0]; } else { let t[1]; t[0] = t[0] + 100; r = r + t[0]; } } return r; }", 606, 7)
	value(t, "fn f() { for i in 0..3 { switch i { case 0 { let t[1]; t[0] = 5; } case 1 { let t[1]; t[0] = t[0] + 6; } case 2 { let t[1]; return t[0]; } } } }", 0, 4)
	value(t, "fn f() { for i in 0..2 { for j in 0..3 { let t[1]; t[0] = t[0] + 1; if i * 3 + j == 5 { return t[0]; } } } }", 6, 9) // through the loop around
	value(t, "fn f() { let r = 0; for i in 0..2 { let t[1]; t[0] = t[0] + 1; r = r + t[0]; } for i in 0..2 { let t[1]; t[0] = t[0] + 10; r = r + t[0]; } return r; }", 33, 5)
	value(t, "fn f() { let r = 0; for i in 0..3 { for j in 0..9 { let t[1]; t[0] = t[0] + 1; r = t[0]; if j == i { break; } } } return r; }", 6, 1+3+6) // a break wipes nothing
}

// P6.1: words are 0 anew in each call, also of the same function, whether the call ahead ended by a return or behind its statements, and deep down.
func TestWordsAnew(t *testing.T) {
	value(t, "fn g() { let t[2]; t[0] = t[0] + 5; t[1] = t[1] + t[0]; return t[1]; } fn f() { return g() * 10000 + g() * 100 + g(); }", 50505, 4)
	value(t, "fn g(a in 0..9) { let t[1]; if a { t[0] = a; } return t[0]; } fn f() { let r = 0; for i in 0..4 { r = r * 10 + g(3 - i); } return r; }", 3210, 9)
	value(t, "fn g(a in 0..9) { let t[1]; if a { t[0] = a; return t[0]; } return t[0]; } fn f() { g(5); return g(0); }", 0, 3)
	value(t, "fn g(a in 0..9) { let t[9]; let r = 0; for i in 0..9 { r = r + t[i]; t[i] = a; } return r; } fn h() { return g(1) + g(2); } fn f() { return g(3) + h() + g(4) + h(); }", 0, 1+6*10+2)
	value(t, "fn g(a in 0..9) { for i in 0..2 { let t[1]; t[0] = t[0] + a; if i { return t[0]; } } } fn f() { return g(g(g(1))); }", 8, 1+3*3) // calls within arguments of the same function
	value(t, "fn g() { let t[1]; t[0] = t[0] + 1; return t[0]; } fn f() { let t[1]; t[0] = 7; t[0] = t[0] + g(); return t[0] + g(); }", 9, 3)
	p := read(t, "fn f(a in 0..9) { let t[1]; let r = t[0]; t[0] = a; return r; }")
	for a := range int64(9) { // and of runs, one behind the other
		asked(t, p, "f", []int64{a + 1}, 9, api.Meaning{Rounds: 1})
	}
}

// P6.1: a call may be met with words that a run before left in the middle.
func TestAfterTrap(t *testing.T) {
	p := read(t, "fn f(a in 0..9) { let t[2]; let r = t[0]; t[0] = 8; r = r + 10 / a; t[a] = 1; return r; }")
	for range 3 {
		asked(t, p, "f", []int64{0}, 9, api.Meaning{E: api.TrapDivide, Rounds: 1})
		asked(t, p, "f", []int64{2}, 9, api.Meaning{E: api.TrapIndex, Rounds: 1})
		asked(t, p, "f", []int64{1}, 0, api.Meaning{E: api.ErrLong})
		asked(t, p, "f", []int64{1}, 1, api.Meaning{V: 10, Rounds: 1})
	}
}
