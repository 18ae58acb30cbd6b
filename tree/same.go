package tree

import (
	"slices"

	"soffit/api"
)

func sameFn(f, g api.Fn) bool {
	return f.Name == g.Name && slices.Equal(f.Params, g.Params) && sameStmts(f.Body, g.Body)
}

func sameStmts(a, b []api.Stmt) bool { return slices.EqualFunc(a, b, sameStmt) }

func sameStmt(s, t api.Stmt) bool {
	return s.Kind == t.Kind && s.Name == t.Name && s.N == t.N &&
		sameExpr(s.A, t.A) && sameExpr(s.B, t.B) &&
		sameStmts(s.Body, t.Body) && sameStmts(s.Else, t.Else) &&
		slices.EqualFunc(s.Cases, t.Cases, sameCase)
}

func sameCase(c, d api.Case) bool { return c.N == d.N && sameStmts(c.Body, d.Body) }

func sameExpr(x, y api.Expr) bool {
	return x.Kind == y.Kind && x.N == y.N && x.Name == y.Name && slices.EqualFunc(x.Args, y.Args, sameExpr)
}
