package names_test

import (
	"fmt"
	"slices"
	"strings"
	"testing"

	"soffit/api"
	"soffit/names"
	"soffit/parse"
	"soffit/tree"
)

func read(t *testing.T, src string) api.Program {
	t.Helper()
	p, e, at := parse.Parse(src)
	if e != api.OK {
		t.Fatalf("%.200q: %d at %d", src, e, at)
	}
	return p
}

// fault holds Check of a source to an error of a function and a statement, and Calls to none beside it.
func fault(t *testing.T, src string, e api.Errno, fn, at int) {
	t.Helper()
	p := read(t, src)
	want := api.Fault{E: e, Func: fn, At: at}
	if got := names.Check(p); got != want {
		t.Errorf("%.200s: %v, not %v", src, got, want)
	}
	if e != api.OK {
		noCalls(t, p)
	}
}

func fine(t *testing.T, src string) {
	t.Helper()
	fault(t, src, api.OK, 0, 0)
}

func noCalls(t *testing.T, p api.Program) {
	t.Helper()
	for i := range p.Funcs {
		if l := names.Calls(p, i); len(l) != 0 {
			t.Errorf("%d calls %v, though Check tells %v", i, l, names.Check(p))
		}
	}
}

// The places at which a row of the tables is asked: each has the row's text instead of $, and the row's number behind the numbers of what stands around it.
var places = []struct {
	text   string
	fn, at int
}{
	{"fn f(p in 0..1) { let x = 1; let t[2]; for i in 0..3 { $ } }", 0, 4},
	{"fn g() { } fn f(p in 0..1) { let x = 1; let t[2]; for i in 0..3 { let y = 1; $ } }", 1, 5},
	{"fn g() { return 1; } fn h() { return g(); } fn f(p in 0..1) { let x = 1; let t[2]; for i in 0..3 { if p { $ } } }", 2, 5},
	{"fn f(p in 0..1) { let x = 1; let t[2]; for i in 0..3 { if p { return 1; } else { $ } } }", 0, 6},
	{"fn f(p in 0..1) { let x = 1; let t[2]; for i in 0..3 { switch p { case 1 { return 1; } case 2 { $ } } } }", 0, 6},
	{"fn f(p in 0..1) { let x = 1; let t[2]; for i in 0..3 { switch p { case 1 { return 1; } else { return 1; $ } } } }", 0, 7},
	{"fn f(p in 0..1) { let x = 1; let t[2]; for i in 0..3 { for j in 0..i { $ } } }", 0, 5},
}

// everywhere asks for a statement at all places, where x and p are plain, t is an array, i is a loop's variable, and z is not known.
func everywhere(t *testing.T, stmt string, e api.Errno) {
	t.Helper()
	for _, place := range places {
		src := strings.ReplaceAll(place.text, "$", stmt)
		if e == api.OK {
			fine(t, src)
		} else {
			fault(t, src, e, place.fn, place.at)
		}
	}
}

// P4.1: each row of the statements' table, with each of its errors and without.
func TestStatements(t *testing.T) {
	for _, c := range []struct {
		stmt string
		e    api.Errno
	}{
		{"let z = 1;", api.OK}, {"let z = x;", api.OK}, {"let z = z;", api.ErrName}, {"let z = t;", api.ErrKind},
		{"let x = 1;", api.ErrTwice}, {"let p = 1;", api.ErrTwice}, {"let t = 1;", api.ErrTwice}, {"let i = 1;", api.ErrTwice},
		{"let z[2];", api.OK}, {"let x[2];", api.ErrTwice}, {"let p[2];", api.ErrTwice}, {"let t[2];", api.ErrTwice}, {"let i[2];", api.ErrTwice},
		{"x = 1;", api.OK}, {"p = 1;", api.OK}, {"x = x;", api.OK}, {"x = i;", api.OK}, {"z = 1;", api.ErrName}, {"t = 1;", api.ErrKind}, {"i = 1;", api.ErrFixed}, {"x = z;", api.ErrName}, {"x = t;", api.ErrKind},
		{"t[1] = 1;", api.OK}, {"t[x] = i;", api.OK}, {"z[1] = 1;", api.ErrName}, {"x[1] = 1;", api.ErrKind}, {"p[1] = 1;", api.ErrKind}, {"i[1] = 1;", api.ErrKind},
		{"t[z] = 1;", api.ErrName}, {"t[t] = 1;", api.ErrKind}, {"t[1] = z;", api.ErrName}, {"t[1] = t;", api.ErrKind},
		{"if x { }", api.OK}, {"if z { }", api.ErrName}, {"if t { }", api.ErrKind},
		{"switch x { case 1 { } }", api.OK}, {"switch z { case 1 { } }", api.ErrName}, {"switch t { else { } }", api.ErrKind},
		{"for z in 0..3 { }", api.OK}, {"for z in x..p { }", api.OK}, {"for z in i..i { }", api.OK}, {"for z in 0..z { }", api.ErrName}, {"for z in z..3 { }", api.ErrName}, {"for z in t..3 { }", api.ErrKind}, {"for z in 0..t { }", api.ErrKind},
		{"for x in 0..3 { }", api.ErrTwice}, {"for p in 0..3 { }", api.ErrTwice}, {"for t in 0..3 { }", api.ErrTwice}, {"for i in 0..3 { }", api.ErrTwice},
		{"break;", api.OK},
		{"return x;", api.OK}, {"return p + i;", api.OK}, {"return z;", api.ErrName}, {"return t;", api.ErrKind},
		{"z();", api.ErrName}, {"f();", api.ErrName}, {"x();", api.ErrName}, {"t();", api.ErrName}, {"i(1);", api.ErrName},
	} {
		everywhere(t, c.stmt, c.e)
	}
}

// P4.1: each row of the expressions' table, alone, and as each argument of each kind.
func TestExpressions(t *testing.T) {
	around := []string{"$", "t[$]", "-$", "!$"}
	for _, sign := range []string{"+", "-", "*", "/", "%", "==", "!=", "<", "<=", ">", ">=", "&&", "||"} {
		around = append(around, "$ "+sign+" 1", "1 "+sign+" $")
	}
	around = append(around, "$ ? 1 : 2", "1 ? $ : 2", "1 ? 2 : $", "g($)", "g(1, $)", "g(1, 2, $, 4)", "g(g(t[-($)]))", "1 + (x ? t[t[$ * 2]] : i)")
	for _, c := range []struct {
		expr string
		e    api.Errno
	}{
		{"7", api.OK}, {"x", api.OK}, {"p", api.OK}, {"i", api.OK}, {"t", api.ErrKind}, {"z", api.ErrName}, {"g", api.ErrName},
		{"t[0]", api.OK}, {"x[0]", api.ErrKind}, {"p[0]", api.ErrKind}, {"i[0]", api.ErrKind}, {"z[0]", api.ErrName}, {"g[0]", api.ErrName}, {"t[z]", api.ErrName}, {"t[t]", api.ErrKind},
		{"g()", api.OK}, {"g(x, i)", api.OK}, {"f()", api.ErrName}, {"h()", api.ErrName}, {"z()", api.ErrName}, {"x()", api.ErrName}, {"g(t)", api.ErrKind}, {"g(1, z)", api.ErrName},
	} {
		for _, s := range around {
			expr := strings.ReplaceAll(s, "$", "("+c.expr+")")
			for _, stmt := range []string{"let y = $;", "x = $;", "t[$] = 1;", "t[1] = $;", "if $ { }", "switch $ { }", "for j in $..1 { }", "for j in 1..$ { }", "return $;", "g(1, $);"} {
				src := "fn g() { } fn f(p in 0..1) { let x = 1; let t[2]; for i in 0..3 { " + strings.ReplaceAll(stmt, "$", expr) + " } } fn h() { }"
				if c.e == api.OK {
					fine(t, src)
				} else {
					fault(t, src, c.e, 1, 4)
				}
			}
		}
	}
}

// P4.1: the order within one statement and one expression. Here z is not known, t is an array, and i is a loop's variable, so that two faults are of two errors.
func TestOrder(t *testing.T) {
	for _, c := range []struct {
		stmt string
		e    api.Errno
	}{
		{"let x = z;", api.ErrName}, {"let x = t;", api.ErrKind}, {"let t = t;", api.ErrKind}, // A ahead of the Name
		{"i = z;", api.ErrFixed}, {"i = t;", api.ErrFixed}, {"t = z;", api.ErrKind}, {"z = t;", api.ErrName}, // the Name ahead of A
		{"x[z] = z;", api.ErrKind}, {"z[t] = t;", api.ErrName}, {"z[1] = t;", api.ErrName}, {"x[1] = z;", api.ErrKind}, // the Name ahead of A and B
		{"t[z] = t;", api.ErrName}, {"t[t] = z;", api.ErrKind}, // A ahead of B
		{"for x in z..t { }", api.ErrName}, {"for x in t..z { }", api.ErrKind}, // A ahead of B and the Name
		{"for x in 0..z { }", api.ErrName}, {"for x in 0..t { }", api.ErrKind}, {"for z in z..t { }", api.ErrName}, // B ahead of the Name
		{"return z(t);", api.ErrName}, {"z(t);", api.ErrName}, {"return x[z];", api.ErrKind}, {"return z[t];", api.ErrName}, // a name ahead of arguments
		{"return t + z;", api.ErrKind}, {"return z + t;", api.ErrName}, {"return 1 ? t : z;", api.ErrKind}, {"return z ? t : t;", api.ErrName}, {"return 1 + t[t] + z;", api.ErrKind},
		{"return 1 + z * t;", api.ErrName}, {"return (1 + t) * z;", api.ErrKind}, // arguments in their order, with all that lies in each
		{"if t { z = 1; }", api.ErrKind}, {"switch t { case 1 { z = 1; } else { z = 1; } }", api.ErrKind}, {"for x in 0..1 { z = 1; }", api.ErrTwice}, // a statement ahead of its bodies
	} {
		everywhere(t, c.stmt, c.e)
	}
	const g = "fn g() { } fn f(x in 0..1) { let t[2]; $ }"
	for stmt, e := range map[string]api.Errno{
		"g(t, z);": api.ErrKind, "g(z, t);": api.ErrName, "g(1, g(t), z);": api.ErrKind, "return g(1, g(z), t);": api.ErrName, "return g(t) + f();": api.ErrKind, "return f() + g(t);": api.ErrName,
	} {
		fault(t, strings.ReplaceAll(g, "$", stmt), e, 1, 2)
	}
}

// P4.1: of two faults the first, in two statements, a head and a body, and two functions.
func TestFirst(t *testing.T) {
	for _, c := range []struct {
		src    string
		e      api.Errno
		fn, at int
	}{
		{"fn f() { let t[1]; z = 1; t = 1; }", api.ErrName, 0, 2},
		{"fn f() { let t[1]; t = 1; z = 1; }", api.ErrKind, 0, 2},
		{"fn f() { if 1 { z = 1; } break; }", api.ErrName, 0, 2},
		{"fn f() { if 1 { } else { break; } z = 1; }", api.ErrBreak, 0, 2},
		{"fn f() { if 1 { break; } else { z = 1; } }", api.ErrBreak, 0, 2},
		{"fn f() { switch 1 { case 1 { break; } case 2 { z = 1; } } }", api.ErrBreak, 0, 2},
		{"fn f() { switch 1 { case 1 { } case 2 { break; } else { z = 1; } } }", api.ErrBreak, 0, 2},
		{"fn f() { for i in 0..1 { i = 1; } break; }", api.ErrFixed, 0, 2},
		{"fn f(a in 0..1, a in 0..1) { z = 1; }", api.ErrTwice, 0, 0},
		{"fn f() { z = 1; } fn f() { }", api.ErrName, 0, 1},
		{"fn f() { } fn f() { z = 1; }", api.ErrTwice, 1, 0},
		{"fn f() { } fn f(a in 0..1, a in 0..1) { z = 1; }", api.ErrTwice, 1, 0},
		{"fn f() { break; } fn g(a in 0..1, a in 0..1) { }", api.ErrBreak, 0, 1},
		{"fn f(a in 0..1, a in 0..1) { } fn g() { break; }", api.ErrTwice, 0, 0},
		{"fn f() { } fn g() { break; } fn f() { }", api.ErrBreak, 1, 1},
		{"fn f() { } fn f() { } fn g() { break; }", api.ErrTwice, 1, 0},
		{"fn f() { } fn g() { } fn g() { } fn f() { }", api.ErrTwice, 2, 0},
		{"fn f() { return 1; break; } fn g() { break; }", api.ErrBreak, 0, 2},
		{"fn f() { return 1; } fn g() { return 1; return 2; break; }", api.ErrBreak, 1, 3},
	} {
		fault(t, c.src, c.e, c.fn, c.at)
	}
}

// P4.1: heads.
func TestHeads(t *testing.T) {
	fine(t, "")
	fine(t, "widen 1; fn f() { }")
	fine(t, "fn f(a in 0..1, b in 0..1) { } fn g(b in 0..1, a in 0..1) { return a + b; }")
	fine(t, "fn f(f in 0..1) { return f; } fn g(f in 0..1, g in 0..1) { return f(f) + g; }")
	fine(t, "fn f(aa in 0..1, a in 0..1, aaa in 0..1, a0 in 0..1) { }")
	fine(t, "fn f() { } fn ff() { } fn f0() { }")
	fault(t, "fn f() { } fn g() { } fn h() { } fn f() { }", api.ErrTwice, 3, 0)
	fault(t, "fn f() { } fn g(a in 0..1, b in 0..1, a in 0..1) { }", api.ErrTwice, 1, 0)
	fault(t, "fn f(a in 0..1, b in 0..1, b in 5..6) { }", api.ErrTwice, 0, 0)
	var full, params []string
	for i := range api.MaxFuncs {
		full = append(full, fmt.Sprintf("fn f%d() { }", i))
	}
	for i := range api.MaxParams {
		params = append(params, fmt.Sprintf("p%d in 0..1", i))
	}
	list := strings.Join(params, ", ")
	fine(t, strings.Join(full, " "))
	fine(t, "fn f("+list+") { return p0 + p7; }")
	fault(t, "fn f("+list+") { let p7 = 1; }", api.ErrTwice, 0, 1)
	fault(t, "fn f("+strings.Replace(list, "p7", "p0", 1)+") { }", api.ErrTwice, 0, 0)
	full[31] = "fn f0() { }"
	fault(t, strings.Join(full, " "), api.ErrTwice, 31, 0)
}

// P4.1: a break lies in a loop's Body, or it doesn't, however deep.
func TestBreaks(t *testing.T) {
	for body, at := range map[string]int{
		"break;": 1, "if 1 { break; }": 2, "if 1 { } else { break; }": 2, "switch 1 { case 1 { break; } }": 2, "switch 1 { else { break; } }": 2, "if 1 { return 1; } else { if 1 { break; } }": 4,
	} {
		fault(t, "fn f() { "+body+" }", api.ErrBreak, 0, at)
		fault(t, "fn f() { for i in 0..1 { break; } "+body+" }", api.ErrBreak, 0, at+2)
		fault(t, "fn f() { for i in 0..1 { for j in 0..1 { } break; } "+body+" }", api.ErrBreak, 0, at+3)
		fault(t, "fn g() { for i in 0..1 { break; } } fn f() { "+body+" }", api.ErrBreak, 1, at)
		fine(t, "fn f() { for i in 0..1 { "+body+" } }")
		fine(t, "fn f() { for i in 0..1 { for j in 0..1 { } "+body+" } }")
		fine(t, "fn f() { if 1 { for i in 0..1 { if 1 { } "+body+" "+body+" } } }")
	}
}

// P4.1: functions are known behind themselves, and only there; variables have names apart from theirs.
func TestFunctions(t *testing.T) {
	fine(t, "fn f() { } fn g() { f(); } fn h() { return g() + f(); }")
	fault(t, "fn f() { f(); }", api.ErrName, 0, 1)
	fault(t, "fn f() { g(); } fn g() { }", api.ErrName, 0, 1)
	fault(t, "fn f() { } fn g() { f(); return g(); }", api.ErrName, 1, 2)
	fault(t, "fn f() { } fn g() { h(); } fn h() { f(); }", api.ErrName, 1, 1)
	fault(t, "fn f(g in 0..1) { g(); }", api.ErrName, 0, 1)
	fault(t, "fn f() { } fn g() { return f; }", api.ErrName, 1, 1)
	fault(t, "fn f() { } fn g() { f = 1; }", api.ErrName, 1, 1)
	fault(t, "fn f() { } fn g() { f[0] = 1; }", api.ErrName, 1, 1)
	fine(t, "fn f() { } fn g() { let f = f(); f = f() + f; f(f); }")
	fine(t, "fn f() { } fn g() { let f[2]; f[f()] = f(f[0]); let g = 1; }")
	fine(t, "fn f() { } fn g() { for f in 0..f() { f(f); } for g in 0..1 { } }")
}

// P4.1: what is known in one function is not in another.
func TestApartFunctions(t *testing.T) {
	fine(t, "fn f(a in 0..1) { let x = 1; let t[2]; } fn g(x in 0..1, t in 0..1) { let a = x + t; }")
	fault(t, "fn f(a in 0..1) { } fn g() { return a; }", api.ErrName, 1, 1)
	fault(t, "fn f() { let a = 1; } fn g() { return a; }", api.ErrName, 1, 1)
	fault(t, "fn f() { let a[1]; } fn g() { return a[0]; }", api.ErrName, 1, 1)
	fault(t, "fn f() { for a in 0..1 { } } fn g() { return a; }", api.ErrName, 1, 1)
	fault(t, "fn f() { return a; } fn g(a in 0..1) { let a = 1; }", api.ErrName, 0, 1)
}

// P4.1: tree.Check's fault is told ahead of all others, also of those ahead of it in the text.
func TestForm(t *testing.T) {
	one := api.Expr{Kind: api.ExprNumber, N: 1}
	back := api.Stmt{Kind: api.StmtReturn, A: one}
	loose := api.Stmt{Kind: api.StmtBreak}
	unknown := api.Stmt{Kind: api.StmtAssign, Name: "z", A: one}
	for what, c := range map[string]struct {
		p    api.Program
		want api.Fault
	}{
		"thresholds":     {api.Program{Widen: []int64{2, 1}, Funcs: []api.Fn{{Name: "f", Body: []api.Stmt{loose}}}}, api.Fault{E: api.ErrOrder}},
		"no name":        {api.Program{Funcs: []api.Fn{{Name: "f", Body: []api.Stmt{loose}}, {Name: "fn"}}}, api.Fault{E: api.ErrName, Func: 1}},
		"two no names":   {api.Program{Funcs: []api.Fn{{Name: ""}, {Name: ""}}}, api.Fault{E: api.ErrName}},
		"a parameter":    {api.Program{Funcs: []api.Fn{{Name: "f"}, {Name: "f"}, {Name: "g", Params: []api.Param{{Name: "a"}, {Name: "a"}, {Name: "0"}}}}}, api.Fault{E: api.ErrName, Func: 2}},
		"a kind":         {api.Program{Funcs: []api.Fn{{Name: "f", Body: []api.Stmt{unknown, back, {Kind: 99}}}}}, api.Fault{E: api.ErrForm, At: 3}},
		"no kind":        {api.Program{Funcs: []api.Fn{{Name: "f", Body: []api.Stmt{{}}}}}, api.Fault{E: api.ErrForm, At: 1}},
		"an expression":  {api.Program{Funcs: []api.Fn{{Name: "f", Body: []api.Stmt{loose}}, {Name: "f", Body: []api.Stmt{{Kind: api.StmtReturn, A: api.Expr{Kind: -1}}}}}}, api.Fault{E: api.ErrForm, Func: 1, At: 1}},
		"an argument":    {api.Program{Funcs: []api.Fn{{Name: "f", Body: []api.Stmt{{Kind: api.StmtReturn, A: api.Expr{Kind: api.ExprIndex, Name: "z"}}}}}}, api.Fault{E: api.ErrForm, At: 1}},
		"a number":       {api.Program{Funcs: []api.Fn{{Name: "f", Body: []api.Stmt{{Kind: api.StmtAssign, Name: "z", A: api.Expr{Kind: api.ExprNumber, N: -1}}}}}}, api.Fault{E: api.ErrArg, At: 1}},
		"a field":        {api.Program{Funcs: []api.Fn{{Name: "f", Body: []api.Stmt{loose, {Kind: api.StmtBreak, Name: "a"}}}}}, api.Fault{E: api.ErrForm, At: 2}},
		"many functions": {api.Program{Funcs: slices.Repeat([]api.Fn{{Name: "f"}}, api.MaxFuncs+1)}, api.Fault{E: api.ErrMany}},
		"many parts":     {api.Program{Funcs: []api.Fn{{Name: "f", Body: slices.Repeat([]api.Stmt{loose}, api.MaxNodes+1)}}}, api.Fault{E: api.ErrMany}},
		"all parts":      {api.Program{Funcs: []api.Fn{{Name: "f", Body: slices.Repeat([]api.Stmt{loose}, api.MaxNodes)}}}, api.Fault{E: api.ErrBreak, At: 1}},
		"all functions":  {api.Program{Funcs: slices.Repeat([]api.Fn{{Name: "f"}}, api.MaxFuncs)}, api.Fault{E: api.ErrTwice, Func: 1}},
	} {
		if got := names.Check(c.p); got != c.want {
			t.Errorf("%s: %v, not %v", what, got, c.want)
		}
		if f := tree.Check(c.p); f.E != api.OK && f != c.want {
			t.Errorf("%s: tree.Check tells %v", what, f)
		}
		noCalls(t, c.p)
	}
}
