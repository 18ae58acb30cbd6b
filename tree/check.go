package tree

import (
	"math"
	"slices"

	"soffit/api"
	"soffit/scan"
)

func checkWhole(p api.Program) api.Errno {
	switch {
	case len(p.Widen) > api.MaxThresholds:
		return api.ErrMany
	case slices.Contains(p.Widen, math.MinInt64):
		return api.ErrArg
	case !rise(p.Widen):
		return api.ErrOrder
	case len(p.Funcs) > api.MaxFuncs:
		return api.ErrMany
	case Nodes(p) > api.MaxNodes:
		return api.ErrMany
	}
	return api.OK
}

func rise(list []int64) bool {
	for i := 1; i < len(list); i++ {
		if list[i] <= list[i-1] {
			return false
		}
	}
	return true
}

// checkFn tells what is wrong first in a function, and the number of the statement where it is.
func checkFn(f api.Fn) (api.Errno, int) {
	if e := checkHead(f); e != api.OK {
		return e, 0
	}
	return checkStmts(f.Body, 1, 0)
}

func checkHead(f api.Fn) api.Errno {
	if !scan.Name(f.Name) {
		return api.ErrName
	}
	if len(f.Params) > api.MaxParams {
		return api.ErrMany
	}
	for _, p := range f.Params {
		if !scan.Name(p.Name) {
			return api.ErrName
		}
		if p.Lo == math.MinInt64 || p.Hi == math.MinInt64 {
			return api.ErrArg
		}
	}
	return api.OK
}

// checkStmts tells what is wrong first in statements of a level that stand behind the statement number at, and the number of the last one that it looked at.
func checkStmts(list []api.Stmt, level, at int) (api.Errno, int) {
	for _, s := range list {
		at++
		if e := checkStmt(s, level); e != api.OK {
			return e, at
		}
		for _, body := range bodies(s) {
			var e api.Errno
			if e, at = checkStmts(body, level+1, at); e != api.OK {
				return e, at
			}
		}
	}
	return api.OK, at
}

// checkStmt looks at a statement without those in its bodies.
func checkStmt(s api.Stmt, level int) api.Errno {
	if level > api.MaxDepth { // never the first: the statement around it has an expression as deep
		return api.ErrDeep
	}
	if !isStmt(s.Kind) {
		return api.ErrForm
	}
	fields := stmtFields[s.Kind]
	switch {
	case stmtUses(s)&^fields != 0:
		return api.ErrForm
	case fields&hasName != 0 && !scan.Name(s.Name):
		return api.ErrName
	case s.N < 0 || hasLeast(s.Cases): // an N that doesn't count is 0 by now
		return api.ErrArg
	case s.Kind == api.StmtCall && s.A.Kind != api.ExprCall:
		return api.ErrForm
	}
	if fields&hasA != 0 {
		if e := checkExpr(s.A, level+1); e != api.OK {
			return e
		}
	}
	if fields&hasB != 0 {
		return checkExpr(s.B, level+1)
	}
	return api.OK
}

func hasLeast(cases []api.Case) bool {
	for _, c := range cases {
		if c.N == math.MinInt64 {
			return true
		}
	}
	return false
}

// checkExpr looks at an expression, and then at its arguments.
func checkExpr(x api.Expr, level int) api.Errno {
	if level > api.MaxDepth {
		return api.ErrDeep
	}
	if !isExpr(x.Kind) {
		return api.ErrForm
	}
	form := exprForms[x.Kind]
	switch {
	case exprUses(x)&^form.fields != 0:
		return api.ErrForm
	case form.args != anyArgs && len(x.Args) != form.args:
		return api.ErrForm
	case form.fields&hasName != 0 && !scan.Name(x.Name):
		return api.ErrName
	case x.N < 0: // an N that doesn't count is 0 by now
		return api.ErrArg
	}
	for _, y := range x.Args {
		if e := checkExpr(y, level+1); e != api.OK {
			return e
		}
	}
	return api.OK
}
