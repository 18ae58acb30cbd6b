package parse

import "soffit/api"

func (r *reader) block() []api.Stmt {
	r.begin()
	r.must("{")
	var list []api.Stmt
	for !r.has("}") {
		list = append(list, r.stmt())
	}
	r.end()
	return list
}

func (r *reader) stmt() api.Stmt {
	t := r.peek()
	if t.Kind == api.TokName {
		return r.named()
	}
	r.pass()
	switch t.Text {
	case "let":
		return r.let()
	case "if":
		return r.choice()
	case "switch":
		return r.choices()
	case "for":
		return r.loop()
	case "break":
		r.must(";")
		return api.Stmt{Kind: api.StmtBreak}
	case "return":
		return api.Stmt{Kind: api.StmtReturn, A: r.last()}
	}
	panic(wrong{api.ErrForm, t.At})
}

// last reads an expression and the end of its statement.
func (r *reader) last() api.Expr {
	x := r.expr()
	r.must(";")
	return x
}

// named reads a statement that begins with a name.
func (r *reader) named() api.Stmt {
	name := r.name()
	switch {
	case r.is("("):
		x := r.call(name)
		r.must(";")
		return api.Stmt{Kind: api.StmtCall, A: x}
	case r.is("["):
		x := r.inner("[", "]")
		r.must("=")
		return api.Stmt{Kind: api.StmtStore, Name: name, A: x, B: r.last()}
	}
	r.must("=")
	return api.Stmt{Kind: api.StmtAssign, Name: name, A: r.last()}
}

func (r *reader) let() api.Stmt {
	name := r.name()
	if r.has("[") {
		n := r.take(api.TokNumber).N
		r.must("]")
		r.must(";")
		return api.Stmt{Kind: api.StmtArray, Name: name, N: n}
	}
	r.must("=")
	return api.Stmt{Kind: api.StmtLet, Name: name, A: r.last()}
}

func (r *reader) choice() api.Stmt {
	x := r.expr()
	body := r.block()
	return api.Stmt{Kind: api.StmtIf, A: x, Body: body, Else: r.otherwise()}
}

func (r *reader) choices() api.Stmt {
	s := api.Stmt{Kind: api.StmtSwitch, A: r.expr()}
	r.must("{")
	for r.has("case") {
		n := r.num()
		s.Cases = append(s.Cases, api.Case{N: n, Body: r.block()})
	}
	s.Else = r.otherwise()
	r.must("}")
	return s
}

// otherwise reads an else, if one stands here.
func (r *reader) otherwise() []api.Stmt {
	if !r.has("else") {
		return nil
	}
	return r.block()
}

func (r *reader) loop() api.Stmt {
	name := r.name()
	r.must("in")
	from := r.expr()
	r.must("..")
	to := r.expr()
	return api.Stmt{Kind: api.StmtFor, Name: name, A: from, B: to, Body: r.block()}
}
