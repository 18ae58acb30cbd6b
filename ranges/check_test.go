package ranges_test

import (
	"fmt"
	"math"
	"slices"
	"strings"
	"testing"

	"soffit/api"
	"soffit/names"
	"soffit/parse"
	"soffit/ranges"
)

func read(t *testing.T, src string) api.Program {
	t.Helper()
	p, e, at := parse.Parse(src)
	if e != api.OK {
		t.Fatalf("%.200q: %d at %d", src, e, at)
	}
	return p
}

// fault holds Check of a source to an error of a function and a statement, and Straight to none beside it.
func fault(t *testing.T, src string, e api.Errno, fn, at int) {
	t.Helper()
	p := read(t, src)
	want := api.Fault{E: e, Func: fn, At: at}
	if got := ranges.Check(p); got != want {
		t.Errorf("%.200s: %v, not %v", src, got, want)
	}
	if e != api.OK {
		nowhereStraight(t, p)
	}
}

func fine(t *testing.T, src string) {
	t.Helper()
	fault(t, src, api.OK, 0, 0)
}

func nowhereStraight(t *testing.T, p api.Program) {
	t.Helper()
	for i := range p.Funcs {
		if ranges.Straight(p, i, false) || ranges.Straight(p, i, true) {
			t.Errorf("%d is straight, though Check tells %v", i, ranges.Check(p))
		}
	}
}

// The places at which a statement is asked: each has the statement instead of $, and its number behind the numbers of what stands around it.
var places = []struct {
	text   string
	fn, at int
}{
	{"fn g(a in 0..1, b in 0..1) { } fn f(p in 0..1) { let x = 1; let t[2]; for i in 0..3 { $ } }", 1, 4},
	{"fn g(a in 0..1, b in 0..1) { return 1; } fn h() { return 1; } fn f(p in 0..1) { let x = 1; let t[2]; for i in 0..3 { let y = 1; $ } }", 2, 5},
	{"fn g(a in 0..1, b in 0..1) { } fn f(p in 0..1) { let x = 1; let t[2]; for i in 0..3 { if p { $ } } }", 1, 5},
	{"fn g(a in 0..1, b in 0..1) { } fn f(p in 0..1) { let x = 1; let t[2]; for i in 0..3 { if p { return 1; } else { $ } } }", 1, 6},
	{"fn g(a in 0..1, b in 0..1) { } fn f(p in 0..1) { let x = 1; let t[2]; for i in 0..3 { switch p { case 1 { return 1; } case 2 { $ } } } }", 1, 6},
	{"fn g(a in 0..1, b in 0..1) { } fn f(p in 0..1) { let x = 1; let t[2]; for i in 0..3 { switch p { case 1 { return 1; } else { return 1; $ } } } }", 1, 7},
	{"fn h() { } fn g(a in 0..1, b in 0..1) { } fn f(p in 0..1) { let x = 1; let t[2]; for i in 0..3 { for j in 0..i { $ } } }", 2, 5},
}

// everywhere asks for a statement at all places, where p is a parameter, x a local, t an array, i a loop's variable, and g a function of two parameters.
func everywhere(t *testing.T, stmt string, e api.Errno) {
	t.Helper()
	for _, place := range places {
		src := strings.ReplaceAll(place.text, "$", stmt)
		if e == api.OK {
			fine(t, src)
		} else {
			fault(t, src, e, place.fn, place.at)
		}
	}
}

// P5.1: ErrEmpty, of any parameter of any function, and its edges.
func TestEmpty(t *testing.T) {
	for _, c := range []struct {
		lo, hi int64
		e      api.Errno
	}{
		{0, 0, api.OK}, {1, 1, api.OK}, {1, 0, api.ErrEmpty}, {0, 1, api.OK}, {0, -1, api.ErrEmpty}, {-1, 0, api.OK}, {-5, -5, api.OK}, {-5, -6, api.ErrEmpty}, {-6, -5, api.OK}, {3, -3, api.ErrEmpty}, {-3, 3, api.OK},
		{math.MaxInt64, math.MaxInt64, api.OK}, {math.MaxInt64, math.MaxInt64 - 1, api.ErrEmpty}, {-math.MaxInt64, math.MaxInt64, api.OK}, {math.MaxInt64, -math.MaxInt64, api.ErrEmpty}, {-math.MaxInt64, -math.MaxInt64, api.OK}, {-math.MaxInt64 + 1, -math.MaxInt64, api.ErrEmpty},
	} {
		range1 := fmt.Sprintf("%d..%d", c.lo, c.hi)
		for _, head := range []string{"a in $", "a in $, b in 0..1", "b in 0..1, a in $", "b in 0..1, c in 0..1, d in 0..1, e in 0..1, f in 0..1, g in 0..1, h in 0..1, a in $"} {
			head = strings.ReplaceAll(head, "$", range1)
			fault(t, "fn f("+head+") { }", c.e, 0, 0)
			fault(t, "fn f("+head+") { return a; } fn g() { }", c.e, 0, 0)
			if c.e != api.OK {
				fault(t, "fn g() { return 1; } fn f("+head+") { return 1; }", c.e, 1, 0)
				fault(t, "fn g() { return 1; } fn h(a in 0..0) { } fn f("+head+") { return 1; }", c.e, 2, 0)
			}
		}
	}
}

// P5.1: ErrArg, and its edges.
func TestArrays(t *testing.T) {
	for n, e := range map[string]api.Errno{
		"0": api.ErrArg, "1": api.OK, "2": api.OK, "1023": api.OK, "1024": api.OK, "1025": api.ErrArg, "2048": api.ErrArg, "4294967297": api.ErrArg, "9223372036854775807": api.ErrArg,
	} {
		everywhere(t, "let z["+n+"];", e)
		everywhere(t, "let z["+n+"]; z[0] = 5000;", e)
	}
	everywhere(t, "let z[5]; let y0[1024]; let y1[1024]; let y2[1024]; let y3[1024]; let y4[1024];", api.OK) // how many words there are in all is not asked here
}

// P5.1: ErrTwice, of cases side by side and apart, and only within one switch.
func TestCases(t *testing.T) {
	for s, e := range map[string]api.Errno{
		"switch 1 { }": api.OK, "switch 1 { case 1 { } }": api.OK, "switch 1 { case 1 { } else { } }": api.OK,
		"switch 1 { case 1 { } case 1 { } }":                                           api.ErrTwice,
		"switch 1 { case 1 { } case 2 { } case 1 { } }":                                api.ErrTwice,
		"switch 1 { case 1 { } case 2 { } case 2 { } case 3 { } }":                     api.ErrTwice,
		"switch 1 { case 3 { } case 1 { } case 2 { } case 4 { } case 3 { } else { } }": api.ErrTwice,
		"switch 1 { case 1 { } case 1 { } case 1 { } }":                                api.ErrTwice,
		"switch 1 { case 2 { } case 1 { } case 3 { } }":                                api.OK,
		"switch 1 { case 1 { } case -1 { } }":                                          api.OK,
		"switch 1 { case -1 { } case 1 { } case -1 { } }":                              api.ErrTwice,
		"switch 1 { case 0 { } case 0 { } }":                                           api.ErrTwice,
		"switch 1 { case 0 { } case 4294967296 { } }":                                  api.OK,
		"switch 1 { case 9223372036854775807 { } case -9223372036854775807 { } }":      api.OK,
		"switch 1 { case 9223372036854775807 { } case 9223372036854775807 { } }":       api.ErrTwice,
		"switch 1 { case 1 { switch 1 { case 1 { } case 2 { } } } case 2 { } }":        api.OK, // a switch within a case
		"switch 1 { case 1 { } else { switch 1 { case 1 { } } } }":                     api.OK,
		"switch 1 { case 1 { } } switch 1 { case 1 { } }":                              api.OK,
		"switch 1 { case 1 { return 1; } case 1 { return 2; } }":                       api.ErrTwice, // with bodies apart
		"switch 1 { case 1 { let z = 1; } case 2 { let z = 1; } else { let z = 1; } }": api.OK,
	} {
		everywhere(t, s, e)
	}
	fault(t, "fn f() { switch 1 { case 1 { switch 1 { case 7 { } case 7 { } } } case 2 { } } }", api.ErrTwice, 0, 2)
	fault(t, "fn f() { switch 1 { case 1 { return 1; } else { switch 1 { case 7 { } case 7 { } } } } }", api.ErrTwice, 0, 3)
	var many strings.Builder
	for i := range 4094 {
		fmt.Fprintf(&many, "case %d { } ", i)
	}
	fine(t, "fn f() { switch 1 { "+many.String()+"} }")
	fault(t, "fn f() { switch 1 { "+strings.Replace(many.String(), "case 4093 ", "case 0 ", 1)+"} }", api.ErrTwice, 0, 1)
}

// P5.1: ErrBound, of A and of B, alone and within each kind that a bound is made of.
func TestBounds(t *testing.T) {
	around := []string{"$", "-$", "--$", "$ + 1", "1 + $", "$ - 1", "1 - $", "$ * 2", "2 * $", "-(1 + 2 * (p - -($)))", "i * (p + $) - 3", "($ + 1) * ($ + 2)"}
	for _, c := range []struct {
		expr string
		e    api.Errno
	}{
		{"0", api.OK}, {"9223372036854775807", api.OK}, {"p", api.OK}, {"i", api.OK}, {"-7", api.OK}, {"1 + 2", api.OK}, {"1 - 2", api.OK}, {"2 * 3", api.OK}, {"p * i", api.OK}, {"p - i * 2 + -p", api.OK}, {"--i", api.OK},
		{"x", api.ErrBound}, {"t[0]", api.ErrBound}, {"t[i]", api.ErrBound}, {"4 / 2", api.ErrBound}, {"p / 1", api.ErrBound}, {"4 % 3", api.ErrBound}, {"!1", api.ErrBound}, {"!p", api.ErrBound},
		{"1 < 2", api.ErrBound}, {"1 <= 2", api.ErrBound}, {"1 > 2", api.ErrBound}, {"1 >= 2", api.ErrBound}, {"1 == 2", api.ErrBound}, {"1 != 2", api.ErrBound}, {"p < i", api.ErrBound},
		{"1 && 1", api.ErrBound}, {"0 || 1", api.ErrBound}, {"p ? 1 : 2", api.ErrBound}, {"g(1, 2)", api.ErrBound}, {"g(p, i)", api.ErrBound}, {"g(1)", api.ErrBound}, {"g()", api.ErrBound},
	} {
		for _, s := range around {
			x := strings.ReplaceAll(s, "$", "("+c.expr+")")
			for _, loop := range []string{"for k in $..3 { }", "for k in 0..$ { }", "for k in $..$ { }", "for k in p..$ { }", "for k in $..i + 1 { }"} {
				everywhere(t, strings.ReplaceAll(loop, "$", x), c.e)
			}
		}
	}
}

// P5.1: a name in a bound is a parameter's or a loop's, by what is known there, not by what has the name elsewhere.
func TestBoundNames(t *testing.T) {
	for _, c := range []struct {
		src string
		at  int // of the ErrBound; 0: it is right
	}{
		{"fn f(n in 0..9, m in 0..9) { for i in n..m { for j in i..n { for k in j..i + m { } } } }", 0},
		{"fn f() { for i in 0..3 { } for j in 0..3 { for i in 0..j { for k in i..j { } } } }", 0},
		{"fn f(n in 0..9) { n = 7; for i in 0..n { n = 1; } }", 0}, // a parameter that is written is one still
		{"fn f() { for i in 0..3 { } let i = 1; for j in 0..i { } }", 3},
		{"fn f() { for i in 0..3 { for j in 0..i { } } let i = 1; for j in 0..i { } }", 4},
		{"fn f() { if 1 { let i = 1; } for i in 0..3 { for j in 0..i { } } }", 0},
		{"fn f() { if 1 { let i = 1; for j in 0..i { } } for i in 0..3 { for j in 0..i { } } }", 3},
		{"fn f() { for i in 0..3 { let j = i; for k in 0..j { } } }", 3},
		{"fn f() { let x = 1; for i in 0..3 { for k in 0..i + x { } } }", 3},
		{"fn f() { for i in 0..3 { for j in 0..3 { } for k in 0..3 { let j = 1; for l in j..3 { } } } }", 5},
		{"fn f() { for a in 0..1 { for b in 0..1 { for c in 0..1 { for d in a..b { } } for c in 0..1 { for d in a + b..c { } } } for e in 0..a { } } }", 0},
		{"fn f() { for a in 0..1 { switch a { case 1 { for b in 0..a { } } else { for b in a..1 { } } } if a { for b in 0..a { } } else { for b in a..2 { } } } }", 0},
		{"fn f() { for a in 0..1 { for b in 0..1 { } let b = 1; switch a { case 1 { for c in 0..b { } } } } }", 5},
	} {
		if c.at == 0 {
			fine(t, c.src)
		} else {
			fault(t, c.src, api.ErrBound, 0, c.at)
			fault(t, "fn g(x in 0..1, i in 0..1, j in 0..1, b in 0..1) { for k in 0..x + i + j + b { } } "+c.src, api.ErrBound, 1, c.at) // a parameter elsewhere is none here
		}
	}
}

// P5.1: ErrCount, wherever an expression may stand, also within others and within arguments.
func TestCounts(t *testing.T) {
	around := []string{"$", "t[$]", "-$", "!$"}
	for _, sign := range []string{"+", "-", "*", "/", "%", "==", "!=", "<", "<=", ">", ">=", "&&", "||"} {
		around = append(around, "$ "+sign+" 1", "1 "+sign+" $")
	}
	around = append(around, "$ ? 1 : 2", "1 ? $ : 2", "1 ? 2 : $", "g($, 1)", "g(1, $)", "g(1, g($, t[0]))", "g(g(1, 2), $)", "g(g(t[-($)], 1), 2)", "1 + (x ? t[t[$ * 2]] : i)")
	for _, c := range []struct {
		call string
		e    api.Errno
	}{
		{"g(1, 2)", api.OK}, {"g(1)", api.ErrCount}, {"g(1, 2, 3)", api.ErrCount}, {"g()", api.ErrCount}, {"g(g(1, 2), g(3, 4))", api.OK}, {"g(g(1, 2), g(3))", api.ErrCount}, {"g(g(1, 2, 3), 4)", api.ErrCount}, {"g(1, 2, 3, 4, 5, 6, 7, 8, 9)", api.ErrCount},
		{"g(10, 0 - 10)", api.OK}, // out of the declared ranges: a trap, if it comes to that
	} {
		for _, s := range around {
			x := strings.ReplaceAll(s, "$", "("+c.call+")")
			for _, stmt := range []string{"let z = $;", "x = $;", "p = $;", "t[$] = 1;", "t[1] = $;", "if $ { }", "switch $ { case 1 { } }", "return $;", "g(1, $);", "g($, 2);"} {
				src := "fn g(a in 0..1, b in 0..1) { } fn f(p in 0..1) { let x = 1; let t[2]; for i in 0..3 { " + strings.ReplaceAll(stmt, "$", x) + " } }"
				if c.e == api.OK {
					fine(t, src)
				} else {
					fault(t, src, c.e, 1, 4)
				}
			}
		}
		everywhere(t, c.call+";", c.e)
		everywhere(t, "return "+c.call+";", c.e)
	}
}

// P5.1: each number of parameters asks for just as many arguments.
func TestCountsOfEach(t *testing.T) {
	var params, args []string
	for i := range api.MaxParams + 1 {
		for n := range api.MaxParams + 3 {
			e := api.ErrCount
			if n == i {
				e = api.OK
			}
			args = slices.Repeat([]string{"1"}, n)
			call := "g(" + strings.Join(args, ", ") + ");"
			fault(t, "fn g("+strings.Join(params, ", ")+") { } fn f() { "+call+" }", e, int(e)/int(api.ErrCount), int(e)/int(api.ErrCount))
		}
		params = append(params, fmt.Sprintf("p%d in 0..1", i))
	}
	fine(t, "fn a() { } fn b(p in 0..1) { a(); } fn c(p in 0..1, q in 0..1) { b(p); a(); } fn d() { c(1, 2); b(1); a(); }")
	fault(t, "fn a() { } fn b(p in 0..1) { } fn c() { b(1); a(1); }", api.ErrCount, 2, 2)
	fault(t, "fn a() { } fn b(p in 0..1) { } fn c() { a(); b(); }", api.ErrCount, 2, 2)
	fine(t, "fn g(a in 0..1) { } fn f() { let g = 1; let a = g(g); g(a); }") // variables have names apart
}

// P5.1: names.Check's fault is told ahead of all others, also of those ahead of it in the text.
func TestNames(t *testing.T) {
	for _, c := range []struct {
		src    string
		e      api.Errno
		fn, at int
	}{
		{"fn f(a in 1..0) { break; }", api.ErrBreak, 0, 1}, {"fn f(a in 1..0, a in 1..0) { }", api.ErrTwice, 0, 0}, {"fn f(a in 1..0) { } fn f() { }", api.ErrTwice, 1, 0},
		{"fn f() { let t[0]; return t; }", api.ErrKind, 0, 2}, {"fn f() { let t[0]; } fn g() { return z; }", api.ErrName, 1, 1}, {"fn f() { switch 1 { case 1 { } case 1 { } } z = 1; }", api.ErrName, 0, 2},
		{"fn f() { switch 1 { case 1 { } case 1 { for i in 0..1 { i = 1; } } } }", api.ErrFixed, 0, 3}, {"fn f() { let x = 1; for i in 0..x { let i = 1; } }", api.ErrTwice, 0, 3}, {"fn f() { for i in 0..1 / 1 { } } fn g() { } fn h() { g(); break; }", api.ErrBreak, 2, 2},
		{"fn f() { } fn g() { f(1); g(); }", api.ErrName, 1, 2}, {"fn f() { } fn g() { f(z); }", api.ErrName, 1, 1}, {"fn f() { f(); }", api.ErrName, 0, 1}, {"fn f() { for i in 0..t[0] { } }", api.ErrName, 0, 1},
		{"widen 2, 1; fn f(a in 1..0) { break; }", api.ErrOrder, 0, 0}, {"widen 2, 1; fn f() { let t[0]; }", api.ErrOrder, 0, 0},
	} {
		fault(t, c.src, c.e, c.fn, c.at)
		if f := names.Check(read(t, c.src)); f != (api.Fault{E: c.e, Func: c.fn, At: c.at}) {
			t.Errorf("%s: names.Check tells %v", c.src, f)
		}
	}
	bad := api.Stmt{Kind: api.StmtArray, Name: "t"}
	for _, c := range []struct {
		last api.Stmt
		e    api.Errno
	}{{api.Stmt{}, api.ErrForm}, {api.Stmt{Kind: api.StmtArray, Name: "u", N: -1}, api.ErrArg}, {api.Stmt{Kind: 11}, api.ErrForm}, {api.Stmt{Kind: api.StmtReturn, A: api.Expr{Kind: api.ExprAdd}}, api.ErrForm}} {
		p := api.Program{Funcs: []api.Fn{{Name: "f", Params: []api.Param{{Name: "a", Lo: 1}}, Body: []api.Stmt{bad, c.last}}}}
		if got := ranges.Check(p); got != (api.Fault{E: c.e, At: 2}) {
			t.Errorf("%v", got)
		}
		nowhereStraight(t, p)
	}
}

// P5.1: hand-made programs without functions, or with more than may be, are answered too.
func TestEdges(t *testing.T) {
	fine(t, "")
	fine(t, "widen 1;")
	if got := ranges.Check(api.Program{}); got != (api.Fault{}) {
		t.Errorf("%v", got)
	}
	many := api.Program{Funcs: slices.Repeat([]api.Fn{{Name: "f"}}, api.MaxFuncs+1)}
	if got := ranges.Check(many); got != (api.Fault{E: api.ErrMany}) || ranges.Straight(many, 0, true) {
		t.Errorf("%v", got)
	}
	deep := api.Expr{Kind: api.ExprNumber}
	for range 10000 {
		deep = api.Expr{Kind: api.ExprNeg, Args: []api.Expr{deep}}
	}
	p := api.Program{Funcs: []api.Fn{{Name: "f", Body: []api.Stmt{{Kind: api.StmtFor, Name: "i", A: deep, B: deep}}}}}
	if got := ranges.Check(p); got != (api.Fault{E: api.ErrMany}) || ranges.Straight(p, 0, false) {
		t.Errorf("%v", got)
	}
}
