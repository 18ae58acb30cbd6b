package tree

import "soffit/api"

// countStmts adds the parts of statements to n. Once the limit is passed nothing more is looked at: how many more there are is not told, and there may be very many.
func countStmts(list []api.Stmt, n int) int {
	for _, s := range list {
		if n > api.MaxNodes {
			break
		}
		n = countStmt(s, n)
	}
	return n
}

func countStmt(s api.Stmt, n int) int {
	n += 1 + len(s.Cases)
	for _, x := range []api.Expr{s.A, s.B} {
		if !zero(x) {
			n = countExpr(x, n)
		}
	}
	for _, body := range bodies(s) {
		n = countStmts(body, n)
	}
	return n
}

// countExpr adds the parts of an expression to n: an argument is one even if it is all zeros.
func countExpr(x api.Expr, n int) int {
	n++
	for _, y := range x.Args {
		if n > api.MaxNodes {
			break
		}
		n = countExpr(y, n)
	}
	return n
}
