package tree_test

import (
	"strings"
	"testing"

	"soffit/api"
	"soffit/tree"
)

const (
	least = -1 << 63
	most  = 1<<63 - 1
)

var (
	fullName = strings.Repeat("a", api.MaxName)
	noNames  = []string{"", "fn", "in", "return", "X", "aB", "a_b", "1a", "7", "a b", " a", "ä", "a\n", fullName + "a"}
)

func num(n int64) api.Expr { return api.Expr{Kind: api.ExprNumber, N: n} }

func name(s string) api.Expr { return api.Expr{Kind: api.ExprName, Name: s} }

func op(kind int, args ...api.Expr) api.Expr { return api.Expr{Kind: kind, Args: args} }

func index(s string, x api.Expr) api.Expr {
	return api.Expr{Kind: api.ExprIndex, Name: s, Args: []api.Expr{x}}
}

func call(s string, args ...api.Expr) api.Expr {
	return api.Expr{Kind: api.ExprCall, Name: s, Args: args}
}

func stop() api.Stmt { return api.Stmt{Kind: api.StmtBreak} }

func back(x api.Expr) api.Stmt { return api.Stmt{Kind: api.StmtReturn, A: x} }

func one(body ...api.Stmt) api.Program { return api.Program{Funcs: []api.Fn{{Name: "f", Body: body}}} }

func stops(n int) []api.Stmt {
	list := make([]api.Stmt, n)
	for i := range list {
		list[i] = stop()
	}
	return list
}

// nested is statements within so many ifs.
func nested(ifs int, inner ...api.Stmt) api.Stmt {
	for ; ifs > 0; ifs-- {
		inner = []api.Stmt{{Kind: api.StmtIf, A: num(1), Body: inner}}
	}
	return inner[0]
}

// negated is an expression within so many others.
func negated(times int, x api.Expr) api.Expr {
	for ; times > 0; times-- {
		x = op(api.ExprNeg, x)
	}
	return x
}

// rising is so many thresholds.
func rising(n int) []int64 {
	list := make([]int64, n)
	for i := range list {
		list[i] = int64(i) - 3
	}
	return list
}

// stmtOf is a right statement of a kind.
func stmtOf(kind int) api.Stmt {
	switch kind {
	case api.StmtLet, api.StmtAssign:
		return api.Stmt{Kind: kind, Name: "x", A: num(1)}
	case api.StmtArray:
		return api.Stmt{Kind: kind, Name: "t", N: 4}
	case api.StmtStore:
		return api.Stmt{Kind: kind, Name: "t", A: num(1), B: num(2)}
	case api.StmtIf:
		return api.Stmt{Kind: kind, A: num(1), Body: stops(1), Else: stops(2)}
	case api.StmtSwitch:
		return api.Stmt{Kind: kind, A: num(1), Cases: []api.Case{{N: 3, Body: stops(1)}, {N: -3}}, Else: stops(1)}
	case api.StmtFor:
		return api.Stmt{Kind: kind, Name: "i", A: num(0), B: name("n"), Body: stops(1)}
	case api.StmtReturn:
		return back(num(1))
	case api.StmtCall:
		return api.Stmt{Kind: kind, A: call("g", num(1))}
	}
	return stop()
}

// exprOf is a right expression of a kind.
func exprOf(kind int) api.Expr {
	a, b, c := name("a"), name("b"), name("c")
	switch kind {
	case api.ExprNumber:
		return num(7)
	case api.ExprName:
		return a
	case api.ExprIndex:
		return index("t", a)
	case api.ExprCall:
		return call("g", a, b)
	case api.ExprNeg, api.ExprNot:
		return op(kind, a)
	case api.ExprChoose:
		return op(kind, a, b, c)
	}
	return op(kind, a, b)
}

// sum is the chapter's first example.
func sum() api.Program {
	return api.Program{Funcs: []api.Fn{{Name: "f", Params: []api.Param{{Name: "n", Lo: 0, Hi: 10}}, Body: []api.Stmt{
		{Kind: api.StmtLet, Name: "s", A: num(0)},
		{Kind: api.StmtFor, Name: "i", A: num(0), B: name("n"), Body: []api.Stmt{{Kind: api.StmtAssign, Name: "s", A: op(api.ExprAdd, name("s"), name("i"))}}},
		back(name("s")),
	}}}}
}

const sumText = `fn f(n in 0..10) {
  let s = 0;
  for i in 0..n {
    s = s + i;
  }
  return s;
}
`

// whole has all kinds of statements and of expressions.
func whole() api.Program {
	var all []api.Stmt
	for kind := api.StmtLet; kind <= api.StmtCall; kind++ {
		all = append(all, stmtOf(kind))
	}
	for kind := api.ExprNumber; kind <= api.ExprChoose; kind++ {
		all = append(all, back(exprOf(kind)))
	}
	return api.Program{Widen: []int64{-5, 0, 7}, Funcs: []api.Fn{
		{Name: "g"},
		{Name: "f", Params: []api.Param{{Name: "a", Lo: -1, Hi: 1}, {Name: "b", Lo: most, Hi: -most}}, Body: all},
	}}
}

const wholeText = `widen -5, 0, 7;
fn g() {
}
fn f(a in -1..1, b in 9223372036854775807..-9223372036854775807) {
  let x = 1;
  let t[4];
  x = 1;
  t[1] = 2;
  if 1 {
    break;
  } else {
    break;
    break;
  }
  switch 1 {
    case 3 {
      break;
    }
    case -3 {
    }
    else {
      break;
    }
  }
  for i in 0..n {
    break;
  }
  break;
  return 1;
  g(1);
  return 7;
  return a;
  return t[a];
  return g(a, b);
  return -a;
  return !a;
  return a + b;
  return a - b;
  return a * b;
  return a / b;
  return a % b;
  return a == b;
  return a != b;
  return a < b;
  return a <= b;
  return a > b;
  return a >= b;
  return a && b;
  return a || b;
  return a ? b : c;
}
`

// P2.1 to P2.4 on programs that are right.
func TestRight(t *testing.T) {
	for _, c := range []struct {
		p     api.Program
		text  string
		parts int
	}{
		{api.Program{}, "", 0},
		{api.Program{Widen: []int64{}, Funcs: []api.Fn{}}, "", 0},
		{api.Program{Widen: []int64{-5, 0, 7}}, "widen -5, 0, 7;\n", 0},
		{api.Program{Widen: []int64{0}}, "widen 0;\n", 0},
		{api.Program{Funcs: []api.Fn{{Name: "f"}, {Name: "f"}}}, "fn f() {\n}\nfn f() {\n}\n", 0},
		{sum(), sumText, 11},
		// let 2, array 1, assign 2, store 3, if 5, switch 6, for 4, break 1, return 2, call 3; then 20 returns and 54 expressions.
		{whole(), wholeText, 29 + 20 + 54},
	} {
		if f := tree.Check(c.p); f != (api.Fault{}) {
			t.Errorf("%q: %v", c.text, f)
		}
		if s, f := tree.Print(c.p); s != c.text || f != (api.Fault{}) {
			t.Errorf("%v, and\n%s, not\n%s", f, s, c.text)
		}
		if n := tree.Nodes(c.p); n != c.parts {
			t.Errorf("%q: %d parts, not %d", c.text, n, c.parts)
		}
		if !tree.Same(c.p, c.p) {
			t.Errorf("%q: not the same as itself", c.text)
		}
	}
}
