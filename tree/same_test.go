package tree_test

import (
	"testing"

	"soffit/api"
	"soffit/tree"
)

// differ holds two programs to be told apart, from both sides.
func differ(t *testing.T, what string, p, q api.Program) {
	t.Helper()
	if tree.Same(p, q) || tree.Same(q, p) {
		t.Errorf("%s: not told apart", what)
	}
}

func alike(t *testing.T, what string, p, q api.Program) {
	t.Helper()
	if !tree.Same(p, q) || !tree.Same(q, p) {
		t.Errorf("%s: told apart", what)
	}
}

// full has something in each field, whether it counts or not.
func full() api.Program {
	x := func() api.Expr {
		return api.Expr{Kind: 1, N: 2, Name: "a", Args: []api.Expr{{Kind: 3, N: 4, Name: "b", Args: []api.Expr{num(5)}}, num(6)}}
	}
	s := func() api.Stmt {
		return api.Stmt{Kind: 1, Name: "s", N: 3, A: x(), B: x(), Body: stops(2), Else: stops(2), Cases: []api.Case{{N: 1, Body: stops(1)}, {N: 2, Body: stops(2)}}}
	}
	return api.Program{Widen: []int64{1, 2}, Funcs: []api.Fn{
		{Name: "f", Params: []api.Param{{Name: "a", Lo: 1, Hi: 2}, {Name: "b", Lo: 3, Hi: 4}}, Body: []api.Stmt{s(), s()}},
		{Name: "g", Params: []api.Param{{Name: "c"}}, Body: []api.Stmt{s()}},
	}}
}

func exprChanges(x *api.Expr) map[string]func() {
	return map[string]func(){
		"kind": func() { x.Kind++ }, "number": func() { x.N = -x.N }, "name": func() { x.Name += "a" }, "no name": func() { x.Name = "" },
		"fewer arguments": func() { x.Args = x.Args[:1] }, "more arguments": func() { x.Args = append(x.Args, api.Expr{}) }, "no arguments": func() { x.Args = nil },
		"the order of arguments": func() { x.Args[0], x.Args[1] = x.Args[1], x.Args[0] },
		"a last argument":        func() { x.Args[1].N++ }, "an argument's argument": func() { x.Args[0].Args[0].N = 0 },
	}
}

func stmtChanges(s *api.Stmt) map[string]func() {
	return map[string]func(){
		"kind": func() { s.Kind = 0 }, "name": func() { s.Name = "t" }, "number": func() { s.N++ },
		"no A": func() { s.A = api.Expr{} }, "no B": func() { s.B = api.Expr{} },
		"fewer in the body": func() { s.Body = s.Body[:1] }, "no body": func() { s.Body = nil }, "more in the body": func() { s.Body = stops(3) }, "the body": func() { s.Body[1].N = 1 },
		"fewer in the else": func() { s.Else = s.Else[:1] }, "no else": func() { s.Else = nil }, "more in the else": func() { s.Else = stops(3) }, "the else": func() { s.Else[1].N = 1 },
		"fewer cases": func() { s.Cases = s.Cases[:1] }, "no cases": func() { s.Cases = nil }, "more cases": func() { s.Cases = append(s.Cases, api.Case{}) },
		"a case's number": func() { s.Cases[1].N = 0 }, "a case's body": func() { s.Cases[1].Body[1].Kind = 0 }, "no case's body": func() { s.Cases[1].Body = nil },
		"the order of cases": func() { s.Cases[0], s.Cases[1] = s.Cases[1], s.Cases[0] },
	}
}

func programChanges(p *api.Program) map[string]func() {
	f := &p.Funcs[0]
	return map[string]func(){
		"a threshold": func() { p.Widen[1]++ }, "fewer thresholds": func() { p.Widen = p.Widen[:1] }, "no thresholds": func() { p.Widen = nil }, "more thresholds": func() { p.Widen = append(p.Widen, 0) },
		"fewer functions": func() { p.Funcs = p.Funcs[:1] }, "no functions": func() { p.Funcs = nil }, "more functions": func() { p.Funcs = append(p.Funcs, api.Fn{}) },
		"the order of functions": func() { p.Funcs[0], p.Funcs[1] = p.Funcs[1], p.Funcs[0] },
		"a function's name":      func() { f.Name = "g" }, "fewer parameters": func() { f.Params = f.Params[:1] }, "more parameters": func() { f.Params = append(f.Params, api.Param{}) },
		"a parameter's name": func() { f.Params[1].Name = "c" }, "a parameter's Lo": func() { f.Params[1].Lo++ }, "a parameter's Hi": func() { f.Params[1].Hi++ },
		"fewer statements": func() { f.Body = f.Body[:1] }, "more statements": func() { f.Body = append(f.Body, api.Stmt{}) }, "no statements": func() { f.Body = nil },
		"the last function's name": func() { p.Funcs[1].Name = "h" },
	}
}

// P2.3: a change of any field, at any depth, is seen.
func TestDiffer(t *testing.T) {
	alike(t, "two that are full", full(), full())
	try := func(what string, changes func(p *api.Program) map[string]func()) {
		p := full()
		for key := range changes(&p) {
			q := full()
			changes(&q)[key]()
			differ(t, what+": "+key, full(), q)
			r := full()
			changes(&r)[key]()
			alike(t, what+": the same change of "+key, r, q)
		}
	}
	try("program", programChanges)
	for _, at := range []func(p *api.Program) *api.Stmt{
		func(p *api.Program) *api.Stmt { return &p.Funcs[0].Body[0] },
		func(p *api.Program) *api.Stmt { return &p.Funcs[0].Body[1] },
		func(p *api.Program) *api.Stmt { return &p.Funcs[1].Body[0] },
	} {
		try("statement", func(p *api.Program) map[string]func() { return stmtChanges(at(p)) })
		try("A", func(p *api.Program) map[string]func() { return exprChanges(&at(p).A) })
		try("B", func(p *api.Program) map[string]func() { return exprChanges(&at(p).B) })
	}
}

// P2.3: lists without elements are the same, nil or not.
func TestEmptyLists(t *testing.T) {
	noExpr := api.Expr{Args: []api.Expr{}}
	nils := api.Program{Funcs: []api.Fn{{}, {Body: []api.Stmt{{Cases: make([]api.Case, 1)}}}}}
	empties := api.Program{Widen: []int64{}, Funcs: []api.Fn{
		{Params: []api.Param{}, Body: []api.Stmt{}},
		{Body: []api.Stmt{{A: noExpr, B: noExpr, Body: []api.Stmt{}, Else: []api.Stmt{}, Cases: []api.Case{{Body: []api.Stmt{}}}}}},
	}}
	alike(t, "empty lists", nils, empties)
	alike(t, "nothing", api.Program{}, api.Program{Widen: []int64{}, Funcs: []api.Fn{}})
	differ(t, "a function and none", api.Program{}, api.Program{Funcs: make([]api.Fn, 1)})
}

// P2.3 and R1: as many parts within one another as the bound allows.
func TestDeepSame(t *testing.T) {
	const deep = 1<<16 - 2
	alike(t, "deep statements", one(nested(deep, stop())), one(nested(deep, stop())))
	differ(t, "deep statements", one(nested(deep, stop())), one(nested(deep, back(num(1)))))
	alike(t, "deep expressions", one(back(negated(deep, num(1)))), one(back(negated(deep, num(1)))))
	differ(t, "deep expressions", one(back(negated(deep, num(1)))), one(back(negated(deep, num(2)))))
	fault(t, "deep statements", one(nested(deep, stop())), api.Fault{E: api.ErrMany})
	fault(t, "deep expressions", one(back(negated(deep, num(1)))), api.Fault{E: api.ErrMany})
}
