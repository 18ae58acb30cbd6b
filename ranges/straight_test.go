package ranges_test

import (
	"fmt"
	"math"
	"strings"
	"testing"

	"soffit/api"
	"soffit/ranges"
)

// straight holds Straight of a source's last function to what is asked, without params and with, and of numbers that are no function's to no.
func straight(t *testing.T, src string, plain, params bool) {
	t.Helper()
	p := read(t, src)
	if f := ranges.Check(p); f.E != api.OK {
		t.Fatalf("%.200s: %v", src, f)
	}
	last := len(p.Funcs) - 1
	if got := ranges.Straight(p, last, false); got != plain {
		t.Errorf("%.200s: %v", src, got)
	}
	if got := ranges.Straight(p, last, true); got != params {
		t.Errorf("%.200s: %v by parameters", src, got)
	}
	for _, fn := range []int{-1, last + 1, last + 2, math.MinInt, math.MaxInt} {
		if ranges.Straight(p, fn, false) || ranges.Straight(p, fn, true) {
			t.Errorf("%.200s: %d, which is none, is straight", src, fn)
		}
	}
}

// The ways in which a function with a Body comes into a program, from which the last function goes to it: in itself, and by calls of each length and place.
var ways = []string{
	"fn o() { } fn f(n in 0..9, m in 0..9) { $ }",
	"fn o() { } fn f(n in 0..9, m in 0..9) { let w = 1; for v in 0..3 { w = w + v; } $ }",
	"fn o() { } fn f(n in 0..9, m in 0..9) { $ } fn g() { f(1, 2); }",
	"fn o() { } fn f(n in 0..9, m in 0..9) { $ } fn g() { return 1; return f(1, 2); }",
	"fn o() { } fn f(n in 0..9, m in 0..9) { $ } fn g() { let w[3]; w[o()] = -(1 + f(1, 2)); }",
	"fn o() { } fn f(n in 0..9, m in 0..9) { $ } fn g(n in 0..9) { for v in 0..3 { for w in 0..3 { n = o() + f(1, 2); } } }",
	"fn o() { } fn f(n in 0..9, m in 0..9) { $ } fn g(n in 0..9) { return f(1, 2) + n; } fn h() { g(o()); o(); }",
	"fn o() { } fn f(n in 0..9, m in 0..9) { $ } fn g(n in 0..9) { return f(1, 2) + n; } fn u() { if 1 { } } fn h() { g(g(o())); } fn k(n in 0..9) { o(); return h(); }",
}

// inAll asks for a Body in all ways.
func inAll(t *testing.T, body string, plain, params bool) {
	t.Helper()
	for _, way := range ways {
		straight(t, strings.ReplaceAll(way, "$", body), plain, params)
	}
}

// P5.2: each thing that bars going straight on, and what doesn't.
func TestBars(t *testing.T) {
	for body, is := range map[string]bool{
		"": true, "return 1;": true, "return n;": true, "return 1; return 2;": true, "let x = n; x = x + 1; n = 3; let t[4]; t[x] = t[t[0]]; o(); return o() / m;": true,
		"return !n + -m * 2 - 3 / 4 % 5;": true, "return (n < m) + (n <= m) + (n > m) + (n >= m) + (n == m) + (n != m);": true,
		"if 1 { }": false, "if n { } else { }": false, "switch 1 { }": false, "switch n { case 1 { } else { } }": false, "for i in 0..3 { if 1 { } }": false, "for i in 0..3 { switch 1 { } }": false, "return 1; if 1 { }": false,
		"for i in 0..3 { break; }": false, "for i in 0..3 { for j in 0..3 { break; } }": false, "for i in 0..3 { for j in 0..3 { } break; }": false,
		"for i in 0..3 { return 1; }": false, "for i in 0..3 { for j in 0..3 { } return 1; }": false, "for i in 0..3 { for j in 0..3 { return 1; } }": false, "for i in 0..0 { return 1; }": false,
		"for i in 0..3 { } return 1;": true, "for i in 0..3 { for j in 0..3 { } } return 1;": true, "return 1; for i in 0..3 { }": true, "for i in 0..3 { } for j in 0..2 { let x = j; n = x; m = 1; o(); let t[2]; t[0] = j; }": true,
	} {
		inAll(t, body, is, is)
	}
	for _, choice := range []string{"n && m", "n || m", "n ? m : 1", "0 && 0"} {
		for _, around := range []string{"$", "-$", "!$", "t[$]", "$ + 1", "1 - $", "2 * $", "$ / 1", "1 % $", "$ < 1", "1 <= $", "$ > 1", "1 >= $", "$ == 1", "1 != $", "id($)", "two(1, $)", "two(1, id(-t[$]))"} {
			x := strings.ReplaceAll(around, "$", "("+choice+")")
			for _, stmt := range []string{"let x = $;", "n = $;", "t[$] = 1;", "t[1] = $;", "return $;", "id($);", "two(2, $);", "for i in 0..2 { n = $; }"} {
				src := "fn id(a in 0..9) { return a; } fn two(a in 0..9, b in 0..9) { } fn f(n in 0..9, m in 0..9) { let t[2]; " + strings.ReplaceAll(stmt, "$", x) + " }"
				straight(t, src, false, false)
				straight(t, src+" fn g() { f(1, 2); }", false, false)
				straight(t, src+" fn g() { id(2); }", true, true)
			}
		}
	}
}

// P5.2: bounds, by A and by B, with params and without.
func TestLoops(t *testing.T) {
	for _, x := range []string{"0", "7", "-7", "2 * 3", "1 + 2 - -3 * (4 - 5)", "--1", "9223372036854775807"} {
		inAll(t, "for i in "+x+"..3 { }", true, true)
		inAll(t, "for i in 0.."+x+" { }", true, true)
		inAll(t, "for i in "+x+"..n { }", false, true)
		inAll(t, "for i in n.."+x+" { }", false, false)
	}
	for _, x := range []string{"n", "m", "(n)"} {
		inAll(t, "for i in 0.."+x+" { }", false, true)
		inAll(t, "for i in 0..3 { for j in 0..3 { for k in 1.."+x+" { } } }", false, true)
		inAll(t, "for i in "+x+"..9 { }", false, false)
		inAll(t, "for i in "+x+".."+x+" { }", false, false)
	}
	for _, x := range []string{"-n", "--n", "n + 1", "1 + n", "n + 0", "n - 1", "1 - n", "n * 1", "2 * n", "n + m", "n - n", "1 + 2 * n"} {
		inAll(t, "for i in 0.."+x+" { }", false, false)
		inAll(t, "for i in "+x+"..3 { }", false, false)
		inAll(t, "for i in 0..n { for j in 0..3 { } for j in 0.."+x+" { } }", false, false)
	}
	inAll(t, "for i in 0..n { for j in 0..m { for k in 0..n { } } for j in 0..m { } } for i in 1..2 { }", false, true)
	inAll(t, "for i in 0..3 { for j in 0..i { } }", false, false)
	inAll(t, "for i in 0..3 { for j in i..3 { } }", false, false)
	inAll(t, "for i in 0..n { for j in 0..i { } }", false, false)
	inAll(t, "for i in 0..3 { } for j in 0..3 { for i in 0..j { } }", false, false)
	inAll(t, "for i in 0..n { return 1; }", false, false)
	inAll(t, "for i in 0..n { break; }", false, false)
	inAll(t, "for i in 0..n { } return n;", false, true)
	inAll(t, "return n; for i in 0..n { }", false, true)
}

// P5.2: a parameter that an assignment names, wherever that stands, is no bound to go straight on by; of another one nothing changes.
func TestWritten(t *testing.T) {
	for _, body := range []string{
		"$ = 1; for i in 0..n { }", "for i in 0..n { } $ = 1;", "for i in 0..n { $ = 1; }", "for i in 0..n { } for j in 0..3 { for k in 0..2 { $ = k; } }", "for j in 0..3 { for k in 0..2 { $ = k; } } for i in 0..n { }",
		"return 1; $ = 1; for i in 0..n { }", "for i in 0..n { } return 1; $ = 1;", "$ = $; for i in 0..n { }", "for i in 0..3 { $ = 1; for j in 0..n { } }", "for i in 0..3 { for j in 0..n { } $ = 1; }",
	} {
		inAll(t, strings.ReplaceAll(body, "$", "n"), false, false)
		inAll(t, strings.ReplaceAll(body, "$", "m"), false, true)
		inAll(t, "let x = 1; "+strings.ReplaceAll(body, "$", "x"), false, true)
	}
	inAll(t, "for i in 0..n { } for j in 0..m { m = 1; }", false, false)
	inAll(t, "n = 1; m = 2; for i in 0..3 { }", true, true)
	inAll(t, "let x = n; x = 1; let t[2]; t[n] = n; for i in 0..n { x = n; }", false, true)
	straight(t, "fn f(n in 0..9) { for i in 0..n { } } fn g(n in 0..9) { n = 1; f(n); }", false, true)                 // another function's parameter of that name
	straight(t, "fn f(n in 0..9) { n = 1; } fn g(n in 0..9) { f(n); for i in 0..n { } }", false, true)                 //
	straight(t, "fn f(n in 0..9) { for i in 0..2 { } } fn g(m in 0..9) { for n in 0..2 { f(n); } }", true, true)       // a loop's variable of that name
	straight(t, "fn f(n in 0..9) { for i in 0..n { } } fn g() { for n in 0..2 { for i in 0..n { } } }", false, false)  //
	straight(t, "fn f(n in 0..9) { for i in 0..n { } } fn g() { let n = 1; n = 2; return f(n); }", false, true)        // a local of that name
	straight(t, "fn f(n in 0..9) { for i in 0..n { } } fn g(m in 0..9) { for i in 0..m { f(i); } }", false, true)      // both have a bound
	straight(t, "fn f(n in 0..9) { for i in 0..n { } } fn g(m in 0..9) { for i in 0..m + 1 { f(i); } }", false, false) //
	straight(t, "fn f(n in 0..9) { n = 1; for i in 0..n { } } fn g(m in 0..9) { for i in 0..m { f(i); } }", false, false)
}

// P5.2: only the functions that a function calls, itself or by others, bar it.
func TestReach(t *testing.T) {
	straight(t, "fn f() { if 1 { } } fn g() { }", true, true)
	straight(t, "fn f() { if 1 { } } fn g() { f(); } fn h() { } fn k() { h(); }", true, true)
	straight(t, "fn f() { } fn g() { f(); } fn h() { f(); g(); }", true, true)
	straight(t, "fn f(n in 0..1) { for i in 0..n { } } fn g() { }", true, true)
	p := read(t, "fn a() { } fn b() { if 1 { } } fn c() { a(); } fn d() { b(); } fn e() { c(); d(); } fn f() { c(); a(); } fn g() { e(); }")
	for i, want := range []bool{true, false, true, false, false, true, false} {
		if ranges.Straight(p, i, false) != want || ranges.Straight(p, i, true) != want {
			t.Errorf("%d: not %v", i, want)
		}
	}
	// A row of as many functions as may be, each of which calls the one ahead: the first one decides.
	var row strings.Builder
	for i := 1; i < api.MaxFuncs; i++ {
		fmt.Fprintf(&row, " fn f%d(p in 0..1) { f%d(p); f%d(p); }", i, i-1, i-1)
	}
	straight(t, "fn f0(p in 0..1) { }"+row.String(), true, true)
	straight(t, "fn f0(p in 0..1) { for i in 0..p { } }"+row.String(), false, true)
	straight(t, "fn f0(p in 0..1) { for i in 0..p { } p = 1; }"+row.String(), false, false)
	straight(t, "fn f0(p in 0..1) { return p && 1; }"+row.String(), false, false)
}

// P5.2: of a program that Check refuses nothing is straight, even if the function itself, and what it calls, are right.
func TestRefused(t *testing.T) {
	for _, s := range []string{
		"fn f() { } fn g(a in 1..0) { }", "fn f() { } fn g() { let t[0]; }", "fn f() { } fn g() { let t[1025]; }", "fn f() { } fn g() { switch 1 { case 1 { } case 1 { } } }", "fn f() { } fn g() { for i in 0..!1 { } }",
		"fn f() { } fn g() { f(1); }", "fn f() { } fn g() { z(); }", "fn f() { } fn f() { }", "fn f() { } fn g() { break; }", "widen 1, 1; fn f() { }", "fn f(a in 1..0) { }",
	} {
		p := read(t, s)
		if ranges.Check(p).E == api.OK {
			t.Errorf("%s: is right", s)
		}
		nowhereStraight(t, p)
	}
}
