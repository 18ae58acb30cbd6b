package ranges

import (
	"slices"

	"soffit/api"
)

// overStmts goes over a list of statements and all that lies in it, in the order of the statements' numbers, and hands each one down to look, with the variables of the loops in whose bodies it lies. It ends where look says no, and tells whether look never did.
func overStmts(list []api.Stmt, loops []string, look func(s api.Stmt, loops []string) bool) bool {
	for _, s := range list {
		if !look(s, loops) || !overBodies(s, loops, look) {
			return false
		}
	}
	return true
}

func overBodies(s api.Stmt, loops []string, look func(s api.Stmt, loops []string) bool) bool {
	in := loops
	if s.Kind == api.StmtFor {
		in = append(slices.Clip(loops), s.Name) // clipped, lest two loops side by side write one place
	}
	if !overStmts(s.Body, in, look) {
		return false
	}
	for _, c := range s.Cases {
		if !overStmts(c.Body, loops, look) {
			return false
		}
	}
	return overStmts(s.Else, loops, look)
}

// overExprs goes over an expression and all that lies in it, and hands each one down to look. It ends where look says no, and tells whether look never did.
func overExprs(x api.Expr, look func(x api.Expr) bool) bool {
	if !look(x) {
		return false
	}
	for _, y := range x.Args {
		if !overExprs(y, look) {
			return false
		}
	}
	return true
}

// bound tells whether an expression is a bound in which no names stand but those of which may is true.
func bound(x api.Expr, may func(name string) bool) bool {
	return overExprs(x, func(y api.Expr) bool {
		switch y.Kind {
		case api.ExprNumber, api.ExprNeg, api.ExprAdd, api.ExprSub, api.ExprMul:
			return true
		case api.ExprName:
			return may(y.Name)
		}
		return false
	})
}
