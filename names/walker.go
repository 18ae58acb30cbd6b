package names

import (
	"cmp"

	"soffit/api"
)

// walker goes over the statements of a function, and embeds the scope that it is in. It knows the functions ahead by their names, and tells the number of the statement that it is at, and the functions called so far.
type walker struct {
	*scope
	funcs  map[string]int
	at     int
	called []int
}

func (w *walker) fn(f api.Fn) api.Errno {
	if _, ok := w.funcs[f.Name]; ok {
		return api.ErrTwice
	}
	w.scope = &scope{kinds: map[string]int{}}
	for _, p := range f.Params {
		if e := w.declare(p.Name, plain); e != api.OK {
			return e
		}
	}
	return w.list(f.Body)
}

func (w *walker) list(list []api.Stmt) api.Errno {
	for _, s := range list {
		w.at++
		if e := w.stmt(s); e != api.OK {
			return e
		}
	}
	return api.OK
}

// stmt asks what the document asks of a statement, and then of those in its bodies. (cmp.Or has all of its questions asked, and tells the first fault: what is asked behind that one changes nothing that is told.)
func (w *walker) stmt(s api.Stmt) api.Errno {
	switch s.Kind {
	case api.StmtLet:
		return cmp.Or(w.expr(s.A), w.declare(s.Name, plain))
	case api.StmtArray:
		return w.declare(s.Name, array)
	case api.StmtAssign:
		return cmp.Or(w.write(s.Name), w.expr(s.A))
	case api.StmtStore:
		return cmp.Or(w.index(s.Name), w.expr(s.A), w.expr(s.B))
	case api.StmtIf, api.StmtSwitch:
		return w.choice(s)
	case api.StmtFor:
		return w.loop(s)
	case api.StmtBreak:
		return w.leave()
	}
	return w.expr(s.A)
}

// choice goes over an if, which has no cases, or a switch, which has no Body.
func (w *walker) choice(s api.Stmt) api.Errno {
	if e := w.expr(s.A); e != api.OK {
		return e
	}
	if e := w.body(w.within(), s.Body); e != api.OK {
		return e
	}
	for _, c := range s.Cases {
		if e := w.body(w.within(), c.Body); e != api.OK {
			return e
		}
	}
	return w.body(w.within(), s.Else)
}

func (w *walker) loop(s api.Stmt) api.Errno {
	in := w.within()
	in.inLoop = true
	if e := cmp.Or(w.expr(s.A), w.expr(s.B), in.declare(s.Name, counter)); e != api.OK {
		return e
	}
	return w.body(in, s.Body)
}

// body goes over a body in a scope of its own, and comes back to the scope around it.
func (w *walker) body(in *scope, list []api.Stmt) api.Errno {
	around := w.scope
	w.scope = in
	e := w.list(list)
	w.scope = around
	return e
}

// expr asks what the document asks of an expression, its name ahead of its arguments.
func (w *walker) expr(x api.Expr) api.Errno {
	if e := w.named(x); e != api.OK {
		return e
	}
	for _, y := range x.Args {
		if e := w.expr(y); e != api.OK {
			return e
		}
	}
	return api.OK
}

func (w *walker) named(x api.Expr) api.Errno {
	switch x.Kind {
	case api.ExprName:
		return w.read(x.Name)
	case api.ExprIndex:
		return w.index(x.Name)
	case api.ExprCall:
		return w.call(x.Name)
	}
	return api.OK
}

// call asks for a function ahead.
func (w *walker) call(name string) api.Errno {
	number, ok := w.funcs[name]
	if !ok {
		return api.ErrName
	}
	w.called = append(w.called, number)
	return api.OK
}
