package tree_test

import (
	"strconv"
	"strings"
	"testing"

	"soffit/api"
	"soffit/scan"
	"soffit/tree"
)

// exprText is what Print writes of an expression in a return.
func exprText(t *testing.T, x api.Expr) string {
	t.Helper()
	s, f := tree.Print(one(back(x)))
	text, ok := strings.CutPrefix(s, "fn f() {\n  return ")
	text, end := strings.CutSuffix(text, ";\n}\n")
	if !ok || !end || f != (api.Fault{}) {
		t.Errorf("%v: %q, %v", x, s, f)
	}
	return text
}

// P2.2: parentheses, and where there are none.
func TestParentheses(t *testing.T) {
	a, b, c, d, e := name("a"), name("b"), name("c"), name("d"), name("e")
	for _, x := range []struct {
		x    api.Expr
		want string
	}{
		{op(api.ExprSub, a, op(api.ExprSub, b, c)), "a - (b - c)"},
		{op(api.ExprSub, op(api.ExprSub, a, b), c), "a - b - c"},
		{op(api.ExprAdd, a, op(api.ExprSub, b, c)), "a + (b - c)"},
		{op(api.ExprNeg, op(api.ExprNeg, a)), "--a"},
		{op(api.ExprNot, op(api.ExprNeg, a)), "!-a"},
		{op(api.ExprNeg, op(api.ExprAdd, a, b)), "-(a + b)"},
		{op(api.ExprNeg, op(api.ExprMul, a, b)), "-(a * b)"},
		{op(api.ExprMul, op(api.ExprNeg, a), op(api.ExprNot, b)), "-a * !b"},
		{op(api.ExprSub, a, op(api.ExprNeg, b)), "a - -b"},
		{op(api.ExprChoose, op(api.ExprChoose, a, b, c), d, e), "(a ? b : c) ? d : e"},
		{op(api.ExprChoose, a, b, op(api.ExprChoose, c, d, e)), "a ? b : c ? d : e"},
		{op(api.ExprChoose, a, op(api.ExprChoose, b, c, d), e), "a ? b ? c : d : e"},
		{op(api.ExprChoose, op(api.ExprOr, a, b), op(api.ExprOr, b, c), op(api.ExprOr, c, d)), "a || b ? b || c : c || d"},
		{op(api.ExprOr, op(api.ExprChoose, a, b, c), op(api.ExprChoose, a, b, c)), "(a ? b : c) || (a ? b : c)"},
		{op(api.ExprNot, op(api.ExprChoose, a, b, c)), "!(a ? b : c)"},
		{op(api.ExprEq, op(api.ExprLt, a, b), c), "a < b == c"},
		{op(api.ExprLt, op(api.ExprEq, a, b), c), "(a == b) < c"},
		{op(api.ExprGe, op(api.ExprLe, a, b), op(api.ExprGt, c, d)), "a <= b >= (c > d)"},
		{op(api.ExprAnd, op(api.ExprNe, a, b), op(api.ExprAnd, c, d)), "a != b && (c && d)"},
		{index("t", op(api.ExprChoose, a, b, c)), "t[a ? b : c]"},
		{index("t", index("t", a)), "t[t[a]]"},
		{call("g"), "g()"},
		{call("g", op(api.ExprChoose, a, b, c), call("g", a), num(0)), "g(a ? b : c, g(a), 0)"},
		{op(api.ExprMul, call("g", a, b), index("t", a)), "g(a, b) * t[a]"},
		{num(most), "9223372036854775807"},
	} {
		if got := exprText(t, x.x); got != x.want {
			t.Errorf("%q, not %q", got, x.want)
		}
	}
}

// reader reads an expression by the ranks alone: it knows nothing of what Print puts into parentheses.
type reader struct {
	tokens []api.Token
	bad    bool
}

var signKinds = map[string][2]int{ // rank, kind
	"*": {7, api.ExprMul}, "/": {7, api.ExprDiv}, "%": {7, api.ExprRem}, "+": {6, api.ExprAdd}, "-": {6, api.ExprSub},
	"<": {5, api.ExprLt}, "<=": {5, api.ExprLe}, ">": {5, api.ExprGt}, ">=": {5, api.ExprGe},
	"==": {4, api.ExprEq}, "!=": {4, api.ExprNe}, "&&": {3, api.ExprAnd}, "||": {2, api.ExprOr},
}

func (r *reader) is(text string) bool { return len(r.tokens) > 0 && r.tokens[0].Text == text }

func (r *reader) next() api.Token {
	if len(r.tokens) == 0 {
		r.bad = true
		return api.Token{}
	}
	x := r.tokens[0]
	r.tokens = r.tokens[1:]
	return x
}

func (r *reader) want(text string) {
	if r.next().Text != text {
		r.bad = true
	}
}

func (r *reader) expr() api.Expr {
	x := r.rank(2)
	if !r.is("?") {
		return x
	}
	r.want("?")
	y := r.expr()
	r.want(":")
	return op(api.ExprChoose, x, y, r.expr())
}

func (r *reader) rank(least int) api.Expr {
	x := r.single()
	for len(r.tokens) > 0 {
		sign := signKinds[r.tokens[0].Text]
		if sign[0] < least || sign[0] == 0 {
			break
		}
		r.next()
		x = op(sign[1], x, r.rank(sign[0]+1))
	}
	return x
}

func (r *reader) single() api.Expr {
	first := r.next()
	switch {
	case first.Text == "-":
		return op(api.ExprNeg, r.single())
	case first.Text == "!":
		return op(api.ExprNot, r.single())
	case first.Text == "(":
		x := r.expr()
		r.want(")")
		return x
	case first.Kind == api.TokNumber:
		return num(first.N)
	case first.Kind == api.TokName && r.is("["):
		r.want("[")
		x := index(first.Text, r.expr())
		r.want("]")
		return x
	case first.Kind == api.TokName && r.is("("):
		return call(first.Text, r.args()...)
	case first.Kind == api.TokName:
		return name(first.Text)
	}
	r.bad = true
	return api.Expr{}
}

func (r *reader) args() []api.Expr {
	var all []api.Expr
	r.want("(")
	for !r.bad && !r.is(")") {
		all = append(all, r.expr())
		if !r.is(")") {
			r.want(",")
		}
	}
	r.want(")")
	return all
}

// readExpr tells the expression of tokens, and whether they are one.
func readExpr(tokens []api.Token) (api.Expr, bool) {
	r := reader{tokens: tokens}
	x := r.expr()
	return x, !r.bad && len(r.tokens) == 0
}

func sameExprs(x, y api.Expr) bool { return tree.Same(one(back(x)), one(back(y))) }

// partner tells where the parenthesis that is opened at i is closed.
func partner(tokens []api.Token, i int) int {
	open := 0
	for ; ; i++ {
		switch tokens[i].Text {
		case "(":
			open++
		case ")":
			open--
		}
		if open == 0 {
			return i
		}
	}
}

// without are the tokens but for two of them.
func without(tokens []api.Token, i, j int) []api.Token {
	var rest []api.Token
	for k, x := range tokens {
		if k != i && k != j {
			rest = append(rest, x)
		}
	}
	return rest
}

// readsBack holds the text of an expression to be read as that expression, and each of its parentheses to be needed for that.
func readsBack(t *testing.T, x api.Expr) {
	t.Helper()
	text := exprText(t, x)
	tokens, _, _ := scan.All(text)
	if y, ok := readExpr(tokens); !ok || !sameExprs(x, y) {
		t.Errorf("%q is not read as what was printed", text)
		return
	}
	for i, token := range tokens {
		if token.Text != "(" || i > 0 && tokens[i-1].Kind == api.TokName {
			continue
		}
		if y, ok := readExpr(without(tokens, i, partner(tokens, i))); ok && sameExprs(x, y) {
			t.Errorf("%q: the parenthesis at %d is too much", text, token.At)
		}
	}
}

// places are the expressions of a kind with x as one of its arguments.
func places(kind int, x api.Expr) []api.Expr {
	var all []api.Expr
	for i := range exprOf(kind).Args {
		y := exprOf(kind)
		y.Args[i] = x
		all = append(all, y)
	}
	return all
}

// P2.2: parentheses stand where they are needed, and only there: all expressions of three kinds within one another.
func TestReadsBack(t *testing.T) {
	for inner := api.ExprNumber; inner <= api.ExprChoose; inner++ {
		readsBack(t, exprOf(inner))
		for middle := api.ExprNumber; middle <= api.ExprChoose; middle++ {
			for _, x := range places(middle, exprOf(inner)) {
				readsBack(t, x)
				for outer := api.ExprNumber; outer <= api.ExprChoose; outer++ {
					for _, y := range places(outer, x) {
						readsBack(t, y)
					}
				}
			}
		}
	}
}

// P2.2: lines and the blanks ahead of them.
func TestLines(t *testing.T) {
	p := one(api.Stmt{Kind: api.StmtFor, Name: "i", A: op(api.ExprChoose, name("a"), num(1), num(2)), B: op(api.ExprOr, name("a"), num(3)), Body: []api.Stmt{
		{Kind: api.StmtSwitch, A: name("a"), Cases: []api.Case{{N: 1, Body: stops(1)}}, Else: stops(1)},
		{Kind: api.StmtSwitch, A: name("a"), Cases: []api.Case{{N: least + 1}, {N: 0, Body: []api.Stmt{{Kind: api.StmtIf, A: num(1), Else: stops(1)}}}}},
		{Kind: api.StmtSwitch, A: name("a")},
		{Kind: api.StmtSwitch, A: name("a"), Cases: []api.Case{}, Else: []api.Stmt{{Kind: api.StmtSwitch, A: num(1), Else: stops(1)}}},
		{Kind: api.StmtIf, A: num(1), Else: []api.Stmt{}},
		{Kind: api.StmtIf, A: num(1), Body: []api.Stmt{{Kind: api.StmtIf, A: num(2)}}, Else: []api.Stmt{{Kind: api.StmtIf, A: num(3), Body: stops(1), Else: stops(1)}}},
		{Kind: api.StmtFor, Name: "j", A: num(0), B: name("i")},
		{Kind: api.StmtStore, Name: "t", A: op(api.ExprChoose, name("a"), num(1), num(2)), B: op(api.ExprChoose, name("a"), num(1), num(2))},
		{Kind: api.StmtArray, Name: "t", N: most},
		{Kind: api.StmtArray, Name: "t"},
		{Kind: api.StmtCall, A: call("g")},
	}})
	p.Funcs = append(p.Funcs, api.Fn{Name: "g", Params: []api.Param{{Name: "a", Lo: least + 1, Hi: most}}})
	want := `fn f() {
  for i in a ? 1 : 2..a || 3 {
    switch a {
      case 1 {
        break;
      }
      else {
        break;
      }
    }
    switch a {
      case -9223372036854775807 {
      }
      case 0 {
        if 1 {
        } else {
          break;
        }
      }
    }
    switch a {
    }
    switch a {
      else {
        switch 1 {
          else {
            break;
          }
        }
      }
    }
    if 1 {
    }
    if 1 {
      if 2 {
      }
    } else {
      if 3 {
        break;
      } else {
        break;
      }
    }
    for j in 0..i {
    }
    t[a ? 1 : 2] = a ? 1 : 2;
    let t[9223372036854775807];
    let t[0];
    g();
  }
}
fn g(a in -9223372036854775807..9223372036854775807) {
}
`
	if s, f := tree.Print(p); s != want || f != (api.Fault{}) {
		t.Errorf("%v, and\n%s", f, s)
	}
}

// sized is a program whose text has so many bytes: breaks at the last level, and returns of as many digits as are missing, 12 to 30 bytes each.
func sized(bytes int) api.Program {
	p := one(nested(31, stops(700)...))
	s, _ := tree.Print(p)
	rest := bytes - len(s)
	for rest > 0 {
		line := min(rest, 30)
		if rest > 30 && rest < 42 {
			line = 12
		}
		n, _ := strconv.ParseInt(strings.Repeat("1", line-11), 10, 64)
		p.Funcs[0].Body = append(p.Funcs[0].Body, back(num(n)))
		rest -= line
	}
	return p
}

// P2.2: ErrBytes, just met and passed by one and by many.
func TestLongText(t *testing.T) {
	for bytes := api.MaxSource - 2; bytes <= api.MaxSource; bytes++ {
		if s, f := tree.Print(sized(bytes)); len(s) != bytes || f != (api.Fault{}) {
			t.Errorf("%d bytes, not %d; %v", len(s), bytes, f)
		}
	}
	for bytes := api.MaxSource + 1; bytes <= api.MaxSource+2; bytes++ {
		if s, f := tree.Print(sized(bytes)); s != "" || f != (api.Fault{E: api.ErrBytes}) {
			t.Errorf("%d bytes of %d; %v", len(s), bytes, f)
		}
		if f := tree.Check(sized(bytes)); f != (api.Fault{}) {
			t.Errorf("Check of %d bytes: %v", bytes, f)
		}
	}
	p := one(nested(31, stops(api.MaxNodes-62)...))
	if s, f := tree.Print(p); s != "" || f != (api.Fault{E: api.ErrBytes}) {
		t.Errorf("%d bytes, %v", len(s), f)
	}
	p.Funcs[0].Name = "fn"
	if s, f := tree.Print(p); s != "" || f != (api.Fault{E: api.ErrName}) {
		t.Errorf("Check's fault is not ahead of ErrBytes: %d bytes, %v", len(s), f)
	}
}
