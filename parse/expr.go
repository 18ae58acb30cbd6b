package parse

import "soffit/api"

// sign is a sign between two expressions, and the kind that it makes of them.
type sign struct {
	text string
	kind int
}

// ranks has the signs of each rank.
var ranks = [...][]sign{
	2: {{"||", api.ExprOr}},
	3: {{"&&", api.ExprAnd}},
	4: {{"==", api.ExprEq}, {"!=", api.ExprNe}},
	5: {{"<", api.ExprLt}, {"<=", api.ExprLe}, {">", api.ExprGt}, {">=", api.ExprGe}},
	6: {{"+", api.ExprAdd}, {"-", api.ExprSub}},
	7: {{"*", api.ExprMul}, {"/", api.ExprDiv}, {"%", api.ExprRem}},
}

func (r *reader) expr() api.Expr {
	r.begin()
	x := r.rank(2)
	if r.has("?") {
		y := r.expr()
		r.must(":")
		z := r.expr()
		x = api.Expr{Kind: api.ExprChoose, Args: []api.Expr{x, y, z}}
	}
	r.end()
	return x
}

// rank reads a row of signs of the rank k, from the left.
func (r *reader) rank(k int) api.Expr {
	if k == len(ranks) {
		return r.single()
	}
	x := r.rank(k + 1)
	for {
		kind := r.sign(k)
		if kind == 0 {
			return x
		}
		y := r.rank(k + 1)
		x = api.Expr{Kind: kind, Args: []api.Expr{x, y}}
	}
}

// sign takes the next token, if it is a sign of the rank k, and tells which kind that makes; 0: it is none.
func (r *reader) sign(k int) int {
	for _, s := range ranks[k] {
		if r.has(s.text) {
			return s.kind
		}
	}
	return 0
}

// single reads a RANK8.
func (r *reader) single() api.Expr {
	t := r.peek()
	switch {
	case t.Kind == api.TokNumber:
		r.pass()
		return api.Expr{Kind: api.ExprNumber, N: t.N}
	case t.Kind == api.TokName:
		r.pass()
		return r.use(t.Text)
	case r.is("("):
		return r.inner("(", ")")
	case r.has("-"):
		return r.signed(api.ExprNeg)
	case r.has("!"):
		return r.signed(api.ExprNot)
	}
	panic(wrong{api.ErrForm, t.At})
}

// signed reads the RANK8 behind a sign.
func (r *reader) signed(kind int) api.Expr {
	r.begin()
	x := r.single()
	r.end()
	return api.Expr{Kind: kind, Args: []api.Expr{x}}
}

// use reads what stands behind a name in an expression.
func (r *reader) use(name string) api.Expr {
	switch {
	case r.is("("):
		return r.call(name)
	case r.is("["):
		x := r.inner("[", "]")
		return api.Expr{Kind: api.ExprIndex, Name: name, Args: []api.Expr{x}}
	}
	return api.Expr{Kind: api.ExprName, Name: name}
}

func (r *reader) call(name string) api.Expr {
	return api.Expr{Kind: api.ExprCall, Name: name, Args: within(r, (*reader).expr)}
}

// inner reads an expression between two signs.
func (r *reader) inner(from, to string) api.Expr {
	r.must(from)
	x := r.expr()
	r.must(to)
	return x
}
