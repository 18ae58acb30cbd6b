package ranges

import (
	"slices"

	"soffit/api"
)

// straight tells of a function, without those that it calls, whether nothing bars it from going straight on (params: by parameters).
func straight(f api.Fn, params bool) bool {
	var ends []string
	if params {
		ends = unwritten(f)
	}
	return overStmts(f.Body, nil, func(s api.Stmt, loops []string) bool {
		return straightStmt(s, len(loops) > 0, ends) && overExprs(s.A, whole) && overExprs(s.B, whole)
	})
}

// unwritten are the parameters of a function that no assignment names, wherever it stands.
func unwritten(f api.Fn) []string {
	var left []string
	for _, p := range f.Params {
		left = append(left, p.Name)
	}
	overStmts(f.Body, nil, func(s api.Stmt, _ []string) bool {
		if s.Kind == api.StmtAssign {
			left = slices.DeleteFunc(left, func(name string) bool { return name == s.Name })
		}
		return true
	})
	return left
}

// straightStmt tells of a statement, without its bodies and what is in its expressions, whether nothing in it bars going straight on; ends are the names that may be a loop's B.
func straightStmt(s api.Stmt, inLoop bool, ends []string) bool {
	switch s.Kind {
	case api.StmtIf, api.StmtSwitch, api.StmtBreak:
		return false
	case api.StmtReturn:
		return !inLoop
	case api.StmtFor:
		return plain(s.A) && (plain(s.B) || s.B.Kind == api.ExprName && slices.Contains(ends, s.B.Name))
	}
	return true
}

// plain tells whether an expression is a plain bound.
func plain(x api.Expr) bool {
	return bound(x, func(string) bool { return false })
}

// whole tells of an expression whether all of its arguments are worked out always.
func whole(x api.Expr) bool {
	return x.Kind != api.ExprAnd && x.Kind != api.ExprOr && x.Kind != api.ExprChoose
}
