package tree

import (
	"strconv"
	"strings"

	"soffit/api"
)

// page gathers the lines of a program that has been checked; deep is how many bodies the next line lies in.
type page struct {
	text strings.Builder
	deep int
}

// line writes one line of pieces.
func (w *page) line(pieces ...string) {
	for range w.deep {
		w.text.WriteString("  ")
	}
	for _, s := range pieces {
		w.text.WriteString(s)
	}
	w.text.WriteByte('\n')
}

func (w *page) program(p api.Program) {
	if len(p.Widen) > 0 {
		w.line("widen ", commas(each(p.Widen, number)...), ";")
	}
	for _, f := range p.Funcs {
		w.line("fn ", f.Name, "(", commas(each(f.Params, param)...), ") {")
		w.body(f.Body)
		w.line("}")
	}
}

func (w *page) body(list []api.Stmt) {
	w.deep++
	for _, s := range list {
		w.stmt(s)
	}
	w.deep--
}

func (w *page) stmt(s api.Stmt) {
	switch s.Kind {
	case api.StmtLet:
		w.line("let ", s.Name, " = ", expr(s.A), ";")
	case api.StmtArray:
		w.line("let ", s.Name, "[", number(s.N), "];")
	case api.StmtAssign:
		w.line(s.Name, " = ", expr(s.A), ";")
	case api.StmtStore:
		w.line(s.Name, "[", expr(s.A), "] = ", expr(s.B), ";")
	case api.StmtIf:
		w.choice(s)
	case api.StmtSwitch:
		w.choices(s)
	case api.StmtFor:
		w.line("for ", s.Name, " in ", expr(s.A), "..", expr(s.B), " {")
		w.body(s.Body)
		w.line("}")
	case api.StmtBreak:
		w.line("break;")
	case api.StmtReturn:
		w.line("return ", expr(s.A), ";")
	case api.StmtCall:
		w.line(expr(s.A), ";")
	}
}

func (w *page) choice(s api.Stmt) {
	w.line("if ", expr(s.A), " {")
	w.body(s.Body)
	if len(s.Else) > 0 {
		w.line("} else {")
		w.body(s.Else)
	}
	w.line("}")
}

func (w *page) choices(s api.Stmt) {
	w.line("switch ", expr(s.A), " {")
	w.deep++
	for _, c := range s.Cases {
		w.line("case ", number(c.N), " {")
		w.body(c.Body)
		w.line("}")
	}
	if len(s.Else) > 0 {
		w.line("else {")
		w.body(s.Else)
		w.line("}")
	}
	w.deep--
	w.line("}")
}

func param(p api.Param) string { return join(p.Name, " in ", number(p.Lo), "..", number(p.Hi)) }

func expr(x api.Expr) string {
	form := exprForms[x.Kind]
	switch x.Kind {
	case api.ExprNumber:
		return number(x.N)
	case api.ExprName:
		return x.Name
	case api.ExprIndex:
		return join(x.Name, "[", expr(x.Args[0]), "]")
	case api.ExprCall:
		return join(x.Name, "(", commas(each(x.Args, expr)...), ")")
	case api.ExprNeg, api.ExprNot:
		return join(form.sign, within(x.Args[0], form.rank))
	case api.ExprChoose:
		return join(within(x.Args[0], form.rank+1), " ? ", expr(x.Args[1]), " : ", expr(x.Args[2]))
	}
	return join(within(x.Args[0], form.rank), " ", form.sign, " ", within(x.Args[1], form.rank+1))
}

// within tells the text of an expression that stands where a rank of least or above must.
func within(x api.Expr, least int) string {
	if exprForms[x.Kind].rank < least {
		return join("(", expr(x), ")")
	}
	return expr(x)
}

func number(n int64) string { return strconv.FormatInt(n, 10) }

func join(pieces ...string) string { return strings.Join(pieces, "") }

func commas(pieces ...string) string { return strings.Join(pieces, ", ") }

// each tells what is written of each element of a list.
func each[T any](list []T, write func(T) string) []string {
	var all []string
	for _, x := range list {
		all = append(all, write(x))
	}
	return all
}
