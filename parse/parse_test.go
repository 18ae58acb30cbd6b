package parse_test

import (
	"fmt"
	"strings"
	"testing"

	"soffit/api"
	"soffit/parse"
	"soffit/tree"
)

const (
	most  = 1<<63 - 1
	mosts = "9223372036854775807"
)

var fullName = strings.Repeat("a", api.MaxName)

func num(n int64) api.Expr { return api.Expr{Kind: api.ExprNumber, N: n} }

func name(s string) api.Expr { return api.Expr{Kind: api.ExprName, Name: s} }

func op(kind int, args ...api.Expr) api.Expr { return api.Expr{Kind: kind, Args: args} }

func index(s string, x api.Expr) api.Expr {
	return api.Expr{Kind: api.ExprIndex, Name: s, Args: []api.Expr{x}}
}

func call(s string, args ...api.Expr) api.Expr {
	return api.Expr{Kind: api.ExprCall, Name: s, Args: args}
}

func back(x api.Expr) api.Stmt { return api.Stmt{Kind: api.StmtReturn, A: x} }

func stop() api.Stmt { return api.Stmt{Kind: api.StmtBreak} }

func all(list ...api.Stmt) []api.Stmt { return list }

func one(body ...api.Stmt) api.Program { return api.Program{Funcs: []api.Fn{{Name: "f", Body: body}}} }

// read holds Parse to a program.
func read(t *testing.T, src string, want api.Program) {
	t.Helper()
	p, e, at := parse.Parse(src)
	if e != api.OK || at != 0 {
		t.Errorf("%.200q: %d at %d", src, e, at)
	} else if !tree.Same(p, want) {
		t.Errorf("%.200q:\n%.500s\nnot\n%.500s", src, fmt.Sprint(p), fmt.Sprint(want))
	}
}

// refused holds Parse to an error, its place, and nothing else.
func refused(t *testing.T, src string, e api.Errno, at int) {
	t.Helper()
	p, gotE, gotAt := parse.Parse(src)
	if gotE != e || gotAt != at {
		t.Errorf("%.200q: %d at %d, not %d at %d", src, gotE, gotAt, e, at)
	}
	if e != api.OK && (len(p.Widen) > 0 || len(p.Funcs) > 0) {
		t.Errorf("%.200q: something beside an error", src)
	}
}

// P3.1: the parts of a program beside statements.
func TestHeads(t *testing.T) {
	for src, want := range map[string]api.Program{
		"":                                    {},
		" \t\r\n# nothing":                    {},
		"widen 0;":                            {Widen: []int64{0}},
		"widen -5,0;":                         {Widen: []int64{-5, 0}},
		"widen - 5 , -0, 7 ; # so":            {Widen: []int64{-5, 0, 7}},
		"widen " + mosts + ",-" + mosts + ";": {Widen: []int64{most, -most}},
		"fn f(){}":                            one(),
		"fn " + fullName + "()\n{\n}":         {Funcs: []api.Fn{{Name: fullName}}},
		"fn f(n in -1..10){}":                 {Funcs: []api.Fn{{Name: "f", Params: []api.Param{{Name: "n", Lo: -1, Hi: 10}}}}},
		"fn f(n in -0..-0){}":                 {Funcs: []api.Fn{{Name: "f", Params: []api.Param{{Name: "n"}}}}},
		"fn f(a in 5..-3,b in -" + mosts + ".." + mosts + ", c in 0..1){}": {Funcs: []api.Fn{{Name: "f", Params: []api.Param{
			{Name: "a", Lo: 5, Hi: -3}, {Name: "b", Lo: -most, Hi: most}, {Name: "c", Hi: 1}}}}},
		"widen 3; fn f(){} fn g(a in 1..2){break;} fn f(){}": {Widen: []int64{3}, Funcs: []api.Fn{
			{Name: "f"}, {Name: "g", Params: []api.Param{{Name: "a", Lo: 1, Hi: 2}}, Body: all(stop())}, {Name: "f"}}},
	} {
		read(t, src, want)
	}
}

// P3.1: each kind of statement.
func TestStatements(t *testing.T) {
	two := op(api.ExprAdd, num(1), num(1))
	for src, want := range map[string][]api.Stmt{
		"let x=1+1;":                      {{Kind: api.StmtLet, Name: "x", A: two}},
		"let t[3];":                       {{Kind: api.StmtArray, Name: "t", N: 3}},
		"let t[0]; let t[" + mosts + "];": {{Kind: api.StmtArray, Name: "t"}, {Kind: api.StmtArray, Name: "t", N: most}},
		"x=1+1;":                          {{Kind: api.StmtAssign, Name: "x", A: two}},
		"t[1+1]=-1;":                      {{Kind: api.StmtStore, Name: "t", A: two, B: op(api.ExprNeg, num(1))}},
		"g();":                            {{Kind: api.StmtCall, A: call("g")}},
		"g(a,1+1,(b));":                   {{Kind: api.StmtCall, A: call("g", name("a"), two, name("b"))}},
		"if 1+1{}":                        {{Kind: api.StmtIf, A: two}},
		"if 1+1{break;}":                  {{Kind: api.StmtIf, A: two, Body: all(stop())}},
		"if a{}else{break;}":              {{Kind: api.StmtIf, A: name("a"), Else: all(stop())}},
		"if a{break;}else{}":              {{Kind: api.StmtIf, A: name("a"), Body: all(stop())}},
		"if a{}else{}":                    {{Kind: api.StmtIf, A: name("a")}},
		"if a{if b{}}else{break;}":        {{Kind: api.StmtIf, A: name("a"), Body: all(api.Stmt{Kind: api.StmtIf, A: name("b")}), Else: all(stop())}},
		"if a{if b{}else{break;}}":        {{Kind: api.StmtIf, A: name("a"), Body: all(api.Stmt{Kind: api.StmtIf, A: name("b"), Else: all(stop())})}},
		"if a{break;return 1;}else{return 2;break;}": {{Kind: api.StmtIf, A: name("a"), Body: all(stop(), back(num(1))), Else: all(back(num(2)), stop())}},
		"switch a{}":             {{Kind: api.StmtSwitch, A: name("a")}},
		"switch a{else{}}":       {{Kind: api.StmtSwitch, A: name("a")}},
		"switch a{else{break;}}": {{Kind: api.StmtSwitch, A: name("a"), Else: all(stop())}},
		"switch 1+1{case 1{}case -2{break;}case -0{}case 1{}}": {{Kind: api.StmtSwitch, A: two, Cases: []api.Case{{N: 1}, {N: -2, Body: all(stop())}, {}, {N: 1}}}},
		"switch a{case -" + mosts + "{}else{break;break;}}":    {{Kind: api.StmtSwitch, A: name("a"), Cases: []api.Case{{N: -most}}, Else: all(stop(), stop())}},
		"for i in 0..n{}":          {{Kind: api.StmtFor, Name: "i", A: num(0), B: name("n")}},
		"for i in -1..1+1{break;}": {{Kind: api.StmtFor, Name: "i", A: op(api.ExprNeg, num(1)), B: two, Body: all(stop())}},
		"for i in a?b:c..(d){}":    {{Kind: api.StmtFor, Name: "i", A: op(api.ExprChoose, name("a"), name("b"), name("c")), B: name("d")}},
		"break;":                   all(stop()),
		"return 1+1;":              all(back(two)),
		"break;break;return 1+1;":  all(stop(), stop(), back(two)),
		"return(a);":               all(back(name("a"))),
	} {
		read(t, "fn f(){"+src+"}", one(want...))
	}
}

// P3.1: each kind of expression, and what parentheses and ranks make of several.
func TestExpressions(t *testing.T) {
	a, b, c, d, e := name("a"), name("b"), name("c"), name("d"), name("e")
	for src, want := range map[string]api.Expr{
		"0": num(0), mosts: num(most), "a": a, fullName: name(fullName),
		"t[a]": index("t", a), "t[a-b]": index("t", op(api.ExprSub, a, b)), "t[t[a]]": index("t", index("t", a)),
		"g()": call("g"), "g(a)": call("g", a), "g(a,b,c)": call("g", a, b, c), "g(g(),g(a),t[a])": call("g", call("g"), call("g", a), index("t", a)),
		"-a": op(api.ExprNeg, a), "!a": op(api.ExprNot, a), "-0": op(api.ExprNeg, num(0)), "-1": op(api.ExprNeg, num(1)),
		"a*b": op(api.ExprMul, a, b), "a/b": op(api.ExprDiv, a, b), "a%b": op(api.ExprRem, a, b), "a+b": op(api.ExprAdd, a, b), "a-b": op(api.ExprSub, a, b),
		"a<b": op(api.ExprLt, a, b), "a<=b": op(api.ExprLe, a, b), "a>b": op(api.ExprGt, a, b), "a>=b": op(api.ExprGe, a, b),
		"a==b": op(api.ExprEq, a, b), "a!=b": op(api.ExprNe, a, b), "a&&b": op(api.ExprAnd, a, b), "a||b": op(api.ExprOr, a, b),
		"a?b:c":     op(api.ExprChoose, a, b, c),
		"a-b-c":     op(api.ExprSub, op(api.ExprSub, a, b), c),
		"a-(b-c)":   op(api.ExprSub, a, op(api.ExprSub, b, c)),
		"(a-b)-c":   op(api.ExprSub, op(api.ExprSub, a, b), c),
		"a<b<=c>d":  op(api.ExprGt, op(api.ExprLe, op(api.ExprLt, a, b), c), d),
		"a==b!=c":   op(api.ExprNe, op(api.ExprEq, a, b), c),
		"a<b==c":    op(api.ExprEq, op(api.ExprLt, a, b), c),
		"a==b<c":    op(api.ExprEq, a, op(api.ExprLt, b, c)),
		"a&&b&&c":   op(api.ExprAnd, op(api.ExprAnd, a, b), c),
		"a||b||c":   op(api.ExprOr, op(api.ExprOr, a, b), c),
		"a||b&&c":   op(api.ExprOr, a, op(api.ExprAnd, b, c)),
		"a&&b||c":   op(api.ExprOr, op(api.ExprAnd, a, b), c),
		"a*b+c/d-e": op(api.ExprSub, op(api.ExprAdd, op(api.ExprMul, a, b), op(api.ExprDiv, c, d)), e),
		"(((1)))":   num(1), "(a)": a, "((a)*(b))": op(api.ExprMul, a, b),
		"--a": op(api.ExprNeg, op(api.ExprNeg, a)), "-!-a": op(api.ExprNeg, op(api.ExprNot, op(api.ExprNeg, a))), "!!a": op(api.ExprNot, op(api.ExprNot, a)),
		"a--b": op(api.ExprSub, a, op(api.ExprNeg, b)), "a- - -b": op(api.ExprSub, a, op(api.ExprNeg, op(api.ExprNeg, b))),
		"-a*b": op(api.ExprMul, op(api.ExprNeg, a), b), "!a==b": op(api.ExprEq, op(api.ExprNot, a), b), "-(a+b)": op(api.ExprNeg, op(api.ExprAdd, a, b)),
		"-t[a]": op(api.ExprNeg, index("t", a)), "!g(a)-b": op(api.ExprSub, op(api.ExprNot, call("g", a)), b),
		"a?b:c?d:e": op(api.ExprChoose, a, b, op(api.ExprChoose, c, d, e)), "a?b?c:d:e": op(api.ExprChoose, a, op(api.ExprChoose, b, c, d), e), "(a?b:c)?d:e": op(api.ExprChoose, op(api.ExprChoose, a, b, c), d, e),
		"a||b?c+d:-e": op(api.ExprChoose, op(api.ExprOr, a, b), op(api.ExprAdd, c, d), op(api.ExprNeg, e)),
	} {
		read(t, "fn f(){return "+src+";}", one(back(want)))
		read(t, "fn f(){return("+src+");}", one(back(want)))
		read(t, "fn f(){t[ "+src+" ] = g( "+src+" , "+src+" ) ;}", one(api.Stmt{Kind: api.StmtStore, Name: "t", A: want, B: call("g", want, want)}))
	}
}

// P3.1: what chapter 2 asks of a program's form is not asked here.
func TestNoFormAsked(t *testing.T) {
	many := strings.Repeat("fn f(){}", api.MaxSource/8)
	if p, e, _ := parse.Parse(many); e != api.OK || len(p.Funcs) != 8192 {
		t.Errorf("%d functions, %d", len(p.Funcs), e)
	}
	for _, src := range []string{
		"widen 1,1;", "widen 5,-5;", "widen 0" + strings.Repeat(",1", api.MaxThresholds) + ";", // order, number
		"fn f(){} fn f(){break;}", "fn f(a in 9..1){}", "fn f(a in 0..1" + strings.Repeat(",a in 0..1", api.MaxParams) + "){}",
		"fn f(){" + strings.Repeat("break;", api.MaxNodes+1) + "}",
		"fn f(){return " + strings.Repeat("-", api.MaxDepth) + "1;}",
		"fn f(){f();x=y;let t[9223372036854775807];t=t(t[t]);for i in i..t{i=i;}}",
	} {
		refused(t, src, api.OK, 0)
	}
}

// P3.1 and R1: a row of signs may be as long as a source may be, and is still taken from the left.
func TestLongRow(t *testing.T) {
	src := "fn f(){return 0"
	n := (api.MaxSource - len(src) - 2) / 2
	src += strings.Repeat("-1", n) + ";}"
	src += strings.Repeat("\n", api.MaxSource-len(src))
	p, e, at := parse.Parse(src)
	if e != api.OK || at != 0 {
		t.Fatalf("%d at %d", e, at)
	}
	x := p.Funcs[0].Body[0].A
	for ; x.Kind == api.ExprSub && len(x.Args) == 2 && x.Args[1].N == 1; x = x.Args[0] {
		n--
	}
	if n != 0 || x.Kind != api.ExprNumber || x.N != 0 {
		t.Errorf("%d signs are missing, and %+v is the first", n, x)
	}
}

// P3.1: the errors of scan.All, ahead of all others.
func TestScanned(t *testing.T) {
	for _, c := range []struct {
		src string
		e   api.Errno
		at  int
	}{
		{"fn f(){return X;}", api.ErrSign, 14}, {"fn f(){} 7 X", api.ErrSign, 11}, {"} } &", api.ErrSign, 4}, {"fn fn fn 007", api.ErrNumber, 9},
		{"fn f(){return 1 2 9223372036854775808", api.ErrNumber, 18}, {"widen -9223372036854775808;", api.ErrNumber, 7}, {"fn " + fullName + "a(){}", api.ErrBytes, 3}, {") ) " + fullName + "a", api.ErrBytes, 4},
		{"fn f(){" + strings.Repeat("(", 300) + "$", api.ErrSign, 307},
		{"fn f(){}" + strings.Repeat(" ", api.MaxSource-8), api.OK, 0}, {"fn f(){}" + strings.Repeat(" ", api.MaxSource-7), api.ErrBytes, api.MaxSource},
		{strings.Repeat(")", api.MaxSource), api.ErrForm, 0}, {strings.Repeat(")", api.MaxSource+1), api.ErrBytes, api.MaxSource},
		{"fn" + strings.Repeat(" ", api.MaxSource-2), api.ErrShort, api.MaxSource},
	} {
		refused(t, c.src, c.e, c.at)
	}
}

// P3.1: of the first token that can't be, and its place; the source's length, if there is none.
func TestWrong(t *testing.T) {
	for _, c := range []struct {
		src string
		e   api.Errno
		at  int
	}{
		{"x", api.ErrForm, 0}, {"  # x\n 7", api.ErrForm, 7}, {"fn", api.ErrShort, 2}, {"fn \n# f", api.ErrShort, 7}, {"fn if(){}", api.ErrForm, 3}, {"fn 7(){}", api.ErrForm, 3}, {"fn f[]{}", api.ErrForm, 4},
		{"widen;", api.ErrForm, 5}, {"widen 1,;", api.ErrForm, 8}, {"widen --1;", api.ErrForm, 7}, {"widen a;", api.ErrForm, 6}, {"widen 1 2;", api.ErrForm, 8}, {"widen 1", api.ErrShort, 7}, {"widen 1, ", api.ErrShort, 9}, {"widen 1; widen 2;", api.ErrForm, 9}, {"fn f(){} widen 1;", api.ErrForm, 9},
		{"fn f(,){}", api.ErrForm, 5}, {"fn f(a){}", api.ErrForm, 6}, {"fn f(a in 0..1,){}", api.ErrForm, 15}, {"fn f(a in b..1){}", api.ErrForm, 10}, {"fn f(a in 0..1+1){}", api.ErrForm, 14}, {"fn f(a in 0,1){}", api.ErrForm, 11}, {"fn f()", api.ErrShort, 6}, {"fn f();", api.ErrForm, 6},
		{"fn f(){", api.ErrShort, 7}, {"fn f(){fn g(){}}", api.ErrForm, 7}, {"fn f(){}}", api.ErrForm, 8}, {"fn f(){;}", api.ErrForm, 7}, {"fn f(){{}}", api.ErrForm, 7}, {"fn f(){1;}", api.ErrForm, 7}, {"fn f(){-g();}", api.ErrForm, 7}, {"fn f(){(g());}", api.ErrForm, 7}, {"fn f(){else{}}", api.ErrForm, 7}, {"fn f(){case 1{}}", api.ErrForm, 7},
		{"fn f(){x;}", api.ErrForm, 8}, {"fn f(){x == 1;}", api.ErrForm, 9}, {"fn f(){x+1;}", api.ErrForm, 8}, {"fn f(){t[1];}", api.ErrForm, 11}, {"fn f(){t[]=1;}", api.ErrForm, 9}, {"fn f(){g()=1;}", api.ErrForm, 10}, {"fn f(){g()+1;}", api.ErrForm, 10}, {"fn f(){g(1,);}", api.ErrForm, 11}, {"fn f(){g(,1);}", api.ErrForm, 9}, {"fn f(){g(1 2);}", api.ErrForm, 11}, {"fn f(){x=;}", api.ErrForm, 9}, {"fn f(){x=y=1;}", api.ErrForm, 10},
		{"fn f(){let t[-1];}", api.ErrForm, 13}, {"fn f(){let t[n];}", api.ErrForm, 13}, {"fn f(){let t[1+1];}", api.ErrForm, 14}, {"fn f(){let t[1]=1;}", api.ErrForm, 15}, {"fn f(){let x;}", api.ErrForm, 12}, {"fn f(){let x(1);}", api.ErrForm, 12}, {"fn f(){let in=1;}", api.ErrForm, 11},
		{"fn f(){if{}}", api.ErrForm, 9}, {"fn f(){if 1;}", api.ErrForm, 11}, {"fn f(){if 1 {} else if 2 {}}", api.ErrForm, 20}, {"fn f(){if 1{}else{}else{}}", api.ErrForm, 19},
		{"fn f(){switch a {else {} case 1 {}}}", api.ErrForm, 25}, {"fn f(){switch a{else{}else{}}}", api.ErrForm, 22}, {"fn f(){switch a{case a{}}}", api.ErrForm, 21}, {"fn f(){switch a{case(1){}}}", api.ErrForm, 20}, {"fn f(){switch a{break;}}", api.ErrForm, 16}, {"fn f(){switch a;}", api.ErrForm, 15}, {"fn f(){switch{}}", api.ErrForm, 13},
		{"fn f(){for i in 0{}}", api.ErrForm, 17}, {"fn f(){for 1 in 0..1{}}", api.ErrForm, 11}, {"fn f(){for i=0..1{}}", api.ErrForm, 12}, {"fn f(){for i in 0..1..2{}}", api.ErrForm, 20}, {"fn f(){for i in ..1{}}", api.ErrForm, 16},
		{"fn f(){break}", api.ErrForm, 12}, {"fn f(){break 1;}", api.ErrForm, 13}, {"fn f(){return;}", api.ErrForm, 13}, {"fn f(){return 1 2;}", api.ErrForm, 16}, {"fn f(){return 1;", api.ErrShort, 16}, {"fn f(){return 1}", api.ErrForm, 15},
		{"fn f(){return a ? b;}", api.ErrForm, 19}, {"fn f(){return a?:b;}", api.ErrForm, 16}, {"fn f(){return a:b;}", api.ErrForm, 15}, {"fn f(){return a?b:c:d;}", api.ErrForm, 19}, {"fn f(){return a+;}", api.ErrForm, 16}, {"fn f(){return +a;}", api.ErrForm, 14}, {"fn f(){return a!b;}", api.ErrForm, 15}, {"fn f(){return a*/b;}", api.ErrForm, 16}, {"fn f(){return a!;}", api.ErrForm, 15},
		{"fn f(){return ();}", api.ErrForm, 15}, {"fn f(){return (a;}", api.ErrForm, 16}, {"fn f(){return a);}", api.ErrForm, 15}, {"fn f(){return (a,b);}", api.ErrForm, 16}, {"fn f(){return t[];}", api.ErrForm, 16}, {"fn f(){return t[a,b];}", api.ErrForm, 17}, {"fn f(){return t[a)];}", api.ErrForm, 17}, {"fn f(){return t[a][b];}", api.ErrForm, 18}, {"fn f(){return g()();}", api.ErrForm, 17}, {"fn f(){return (g)();}", api.ErrForm, 17}, {"fn f(){return 1(2);}", api.ErrForm, 15}, {"fn f(){return in;}", api.ErrForm, 14},
		// of two, the first one from the left
		{"fn f(){return 1 2;} }", api.ErrForm, 16}, {"} fn f(){", api.ErrForm, 0}, {"fn f(){x;return 1 2", api.ErrForm, 8}, {"fn f(){x;" + strings.Repeat("(", 300), api.ErrForm, 8},
		{"fn f(){return " + strings.Repeat("(", 300) + ") }", api.ErrDeep, 269}, {"fn f(){return " + strings.Repeat("(", 300), api.ErrDeep, 269},
	} {
		refused(t, c.src, c.e, c.at)
	}
}
