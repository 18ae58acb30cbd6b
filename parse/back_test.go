package parse_test

import (
	"fmt"
	"math/rand/v2"
	"strings"
	"testing"

	"soffit/api"
	"soffit/parse"
	"soffit/tree"
)

// signRanks has the chapter's signs by rank, from 2 on.
var signRanks = []string{2: "||", 3: "&&", 4: "== !=", 5: "< <= > >=", 6: "+ -", 7: "* / %"}

var signKinds = map[string]int{
	"*": api.ExprMul, "/": api.ExprDiv, "%": api.ExprRem, "+": api.ExprAdd, "-": api.ExprSub, "<": api.ExprLt, "<=": api.ExprLe, ">": api.ExprGt, ">=": api.ExprGe,
	"==": api.ExprEq, "!=": api.ExprNe, "&&": api.ExprAnd, "||": api.ExprOr,
}

// signOf tells the sign and the rank of an expression.
func signOf(x api.Expr) (string, int) {
	for rank, signs := range signRanks {
		for _, s := range strings.Fields(signs) {
			if signKinds[s] == x.Kind {
				return s, rank
			}
		}
	}
	switch x.Kind {
	case api.ExprNeg:
		return "-", 8
	case api.ExprNot:
		return "!", 8
	case api.ExprChoose:
		return "?", 1
	}
	return "", 9
}

// split reads a row of names and signs the other way round: the last sign of the lowest rank is the outermost one.
func split(words []string) api.Expr {
	for _, signs := range signRanks {
		for i := len(words) - 2; i > 0; i -= 2 {
			for _, s := range strings.Fields(signs) {
				if words[i] == s {
					return op(signKinds[s], split(words[:i]), split(words[i+1:]))
				}
			}
		}
	}
	return name(words[0])
}

// P3.1: all rows of up to three signs, of one rank and of several, and long ones at random.
func TestRows(t *testing.T) {
	var signs []string
	for s := range signKinds {
		signs = append(signs, s)
	}
	rows := func(row []string) {
		read(t, "fn f(){return "+strings.Join(row, " ")+";}", one(back(split(row))))
	}
	for _, p := range signs {
		rows([]string{"a", p, "b"})
		for _, q := range signs {
			rows([]string{"a", p, "b", q, "c"})
			for _, r := range signs {
				rows([]string{"a", p, "b", q, "c", r, "d"})
			}
		}
	}
	r := rand.New(rand.NewPCG(3, 3))
	for range 200 {
		row := []string{"a"}
		for range r.IntN(60) {
			row = append(row, signs[r.IntN(len(signs))], string(rune('a'+r.IntN(26))))
		}
		rows(row)
	}
}

// maker makes programs and texts at random, always the same ones.
type maker struct{ *rand.Rand }

func (m maker) name() string {
	return []string{"a", "b", "x1", "inn", "f", "t", fullName}[m.IntN(7)]
}

func (m maker) number() int64 { return m.Int64() >> m.IntN(64) }

func (m maker) program() api.Program {
	var p api.Program
	for n := -m.number() / 4; len(p.Widen) < api.MaxThresholds && m.IntN(4) > 0; n += 1 + m.Int64N(9) {
		p.Widen = append(p.Widen, n)
	}
	for range m.IntN(4) {
		f := api.Fn{Name: m.name(), Body: m.body(1)}
		for range m.IntN(api.MaxParams + 1) {
			f.Params = append(f.Params, api.Param{Name: m.name(), Lo: m.number() - m.number(), Hi: -m.number()})
		}
		p.Funcs = append(p.Funcs, f)
	}
	return p
}

func (m maker) body(level int) []api.Stmt {
	var body []api.Stmt
	for range m.IntN(4) {
		body = append(body, m.stmt(level))
	}
	return body
}

func (m maker) stmt(level int) api.Stmt {
	kind := api.StmtLet + m.IntN(10)
	if level > 5 && (kind == api.StmtIf || kind == api.StmtSwitch || kind == api.StmtFor) {
		kind = api.StmtBreak
	}
	x, y := m.expr(level+1), m.expr(level+1)
	switch kind {
	case api.StmtLet, api.StmtAssign:
		return api.Stmt{Kind: kind, Name: m.name(), A: x}
	case api.StmtArray:
		return api.Stmt{Kind: kind, Name: m.name(), N: m.number()}
	case api.StmtStore:
		return api.Stmt{Kind: kind, Name: m.name(), A: x, B: y}
	case api.StmtIf:
		return api.Stmt{Kind: kind, A: x, Body: m.body(level + 1), Else: m.body(level + 1)}
	case api.StmtFor:
		return api.Stmt{Kind: kind, Name: m.name(), A: x, B: y, Body: m.body(level + 1)}
	case api.StmtReturn:
		return back(x)
	case api.StmtCall:
		return api.Stmt{Kind: kind, A: call(m.name(), m.exprs(m.IntN(4), level+2)...)}
	case api.StmtSwitch:
		s := api.Stmt{Kind: kind, A: x, Else: m.body(level + 1)}
		for range m.IntN(3) {
			s.Cases = append(s.Cases, api.Case{N: m.number() - m.number(), Body: m.body(level + 1)})
		}
		return s
	}
	return stop()
}

func (m maker) exprs(n, level int) []api.Expr {
	var all []api.Expr
	for range n {
		all = append(all, m.expr(level))
	}
	return all
}

func (m maker) expr(level int) api.Expr {
	kind := api.ExprNumber + m.IntN(20)
	if level > 8 || m.IntN(3) == 0 {
		kind = api.ExprNumber + m.IntN(2)
	}
	switch kind {
	case api.ExprNumber:
		return num(m.number())
	case api.ExprName:
		return name(m.name())
	case api.ExprIndex:
		return index(m.name(), m.expr(level+1))
	case api.ExprCall:
		return call(m.name(), m.exprs(m.IntN(4), level+1)...)
	case api.ExprNeg, api.ExprNot:
		return op(kind, m.expr(level+1))
	case api.ExprChoose:
		return op(kind, m.exprs(3, level+1)...)
	}
	return op(kind, m.exprs(2, level+1)...)
}

// text writes a program as loosely as the grammar lets one: with parentheses that aren't needed, blanks and remarks at random, an else without statements, and 0 as -0.
func (m maker) text(p api.Program) string {
	var words []string
	put := func(w ...string) { words = append(words, w...) }
	if len(p.Widen) > 0 {
		put("widen")
		for i, n := range p.Widen {
			put(m.comma(i), m.signed(n))
		}
		put(";")
	}
	for _, f := range p.Funcs {
		put("fn", f.Name, "(")
		for i, q := range f.Params {
			put(m.comma(i), q.Name, "in", m.signed(q.Lo), "..", m.signed(q.Hi))
		}
		put(")", m.block(f.Body))
	}
	var b strings.Builder
	for _, w := range strings.Fields(strings.Join(words, " ")) {
		b.WriteString(w)
		b.WriteString([]string{" ", " ", "\n", "\t\r", " # fn { X 007 \n", "#\n"}[m.IntN(6)])
	}
	return b.String()
}

func (m maker) comma(i int) string {
	if i > 0 {
		return ","
	}
	return ""
}

func (m maker) signed(n int64) string {
	switch {
	case n < 0:
		return fmt.Sprintf("- %d", -n)
	case n == 0 && m.IntN(2) == 0:
		return "- 0"
	}
	return fmt.Sprint(n)
}

func (m maker) block(body []api.Stmt) string {
	text := "{"
	for _, s := range body {
		text += " " + m.statement(s)
	}
	return text + " }"
}

func (m maker) otherwise(body []api.Stmt) string {
	if len(body) > 0 || m.IntN(2) == 0 {
		return " else " + m.block(body)
	}
	return ""
}

func (m maker) statement(s api.Stmt) string {
	switch s.Kind {
	case api.StmtLet:
		return "let " + s.Name + " = " + m.write(s.A, 1) + " ;"
	case api.StmtArray:
		return fmt.Sprint("let ", s.Name, " [ ", s.N, " ] ;")
	case api.StmtAssign:
		return s.Name + " = " + m.write(s.A, 1) + " ;"
	case api.StmtStore:
		return s.Name + " [ " + m.write(s.A, 1) + " ] = " + m.write(s.B, 1) + " ;"
	case api.StmtIf:
		return "if " + m.write(s.A, 1) + m.block(s.Body) + m.otherwise(s.Else)
	case api.StmtSwitch:
		text := "switch " + m.write(s.A, 1) + " {"
		for _, c := range s.Cases {
			text += " case " + m.signed(c.N) + m.block(c.Body)
		}
		return text + m.otherwise(s.Else) + " }"
	case api.StmtFor:
		return "for " + s.Name + " in " + m.write(s.A, 1) + " .. " + m.write(s.B, 1) + m.block(s.Body)
	case api.StmtReturn:
		return "return " + m.write(s.A, 1) + " ;"
	case api.StmtCall:
		return m.plain(s.A) + " ;"
	}
	return "break ;"
}

// write writes an expression where a rank of least or above must stand.
func (m maker) write(x api.Expr, least int) string {
	if _, rank := signOf(x); rank < least || m.IntN(8) == 0 {
		return "( " + m.write(x, 1) + " )"
	}
	return m.plain(x)
}

func (m maker) plain(x api.Expr) string {
	sign, rank := signOf(x)
	switch {
	case x.Kind == api.ExprNumber:
		return fmt.Sprint(x.N)
	case x.Kind == api.ExprName:
		return x.Name
	case x.Kind == api.ExprIndex:
		return x.Name + " [ " + m.write(x.Args[0], 1) + " ]"
	case x.Kind == api.ExprCall:
		text := x.Name + " ("
		for i, y := range x.Args {
			text += m.comma(i) + " " + m.write(y, 1)
		}
		return text + " )"
	case rank == 8:
		return sign + " " + m.write(x.Args[0], 8)
	case rank == 1:
		return m.write(x.Args[0], 2) + " ? " + m.write(x.Args[1], 1) + " : " + m.write(x.Args[2], 1)
	}
	return m.write(x.Args[0], rank) + " " + sign + " " + m.write(x.Args[1], rank+1)
}

// again holds Parse and tree.Print to each other: what is printed is read as the program, and that prints as the same text.
func again(t *testing.T, p api.Program) {
	t.Helper()
	text, f := tree.Print(p)
	if f.E != api.OK {
		t.Fatalf("no text: %v", f)
	}
	read(t, text, p)
	q, _, _ := parse.Parse(text)
	if s, _ := tree.Print(q); s != text {
		t.Errorf("%.300q is printed as %.300q", text, s)
	}
}

// P3.2 (W10), P3.1: programs at random are read back, from what is printed and from what is written loosely; so what is read, printed and read again is the same.
func TestReadBack(t *testing.T) {
	for seed := range uint64(600) {
		m := maker{rand.New(rand.NewPCG(seed, 7))}
		p := m.program()
		again(t, p)
		if src := m.text(p); len(src) <= api.MaxSource {
			read(t, src, p)
		}
	}
}

// P3.2: what stands in parse's own sources for all places, read, printed and read again.
func TestPlacesAgain(t *testing.T) {
	for _, src := range places {
		p, e, at := parse.Parse(src)
		if e != api.OK {
			t.Fatalf("%q: %d at %d", src, e, at)
		}
		p.Widen = nil // these do not rise
		again(t, p)
	}
}

// P3.2: all kinds of expressions three within one another, at all places.
func TestNestedKinds(t *testing.T) {
	args := map[int]int{api.ExprNumber: 0, api.ExprName: 0, api.ExprIndex: 1, api.ExprCall: 2, api.ExprNeg: 1, api.ExprNot: 1, api.ExprChoose: 3}
	within := func(x api.Expr) []api.Expr {
		var all []api.Expr
		for kind := api.ExprIndex; kind <= api.ExprChoose; kind++ {
			n, known := args[kind]
			if !known {
				n = 2
			}
			for i := range n {
				y := api.Expr{Kind: kind, Args: []api.Expr{name("a"), name("b"), name("c")}[:n]}
				y.Args[i] = x
				if kind == api.ExprIndex || kind == api.ExprCall {
					y.Name = "g"
				}
				all = append(all, y)
			}
		}
		return all
	}
	n := 0
	for _, x := range within(num(7)) {
		for _, y := range within(x) {
			var body []api.Stmt
			for _, z := range within(y) {
				body = append(body, back(z))
				n++
			}
			again(t, one(body...))
		}
	}
	if n != 34*34*34 {
		t.Errorf("%d expressions", n)
	}
}

// P3.2: what is printed is read however deep it lies: a level may open two.
func TestDeepestPrinted(t *testing.T) {
	x := op(api.ExprAdd, num(1), num(2))
	for range 14 {
		x = op(api.ExprAdd, num(1), op(api.ExprNeg, x))
	}
	again(t, one(back(x)))
	s := stop()
	for range api.MaxDepth - 1 {
		s = api.Stmt{Kind: api.StmtIf, A: num(1), Body: all(s), Else: all(stop())}
	}
	again(t, one(s))
}
