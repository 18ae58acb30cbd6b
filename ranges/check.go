package ranges

import (
	"slices"

	"soffit/api"
)

// wrong tells what is wrong first in a function, and the statement's number; counts has how many parameters each function ahead has.
func wrong(f api.Fn, counts map[string]int) (api.Errno, int) {
	var params []string
	for _, p := range f.Params {
		if p.Lo > p.Hi {
			return api.ErrEmpty, 0
		}
		params = append(params, p.Name)
	}
	e, at := api.OK, 0
	overStmts(f.Body, nil, func(s api.Stmt, loops []string) bool {
		at++
		e = wrongStmt(s, counts, func(name string) bool {
			return slices.Contains(params, name) || slices.Contains(loops, name)
		})
		return e == api.OK
	})
	return e, at
}

// wrongStmt tells what is wrong first in a statement, without its bodies; may tells of a name whether it may stand in a bound.
func wrongStmt(s api.Stmt, counts map[string]int, may func(name string) bool) api.Errno {
	switch s.Kind {
	case api.StmtArray:
		if s.N < 1 || s.N > api.MaxArray {
			return api.ErrArg
		}
	case api.StmtSwitch:
		if twice(s.Cases) {
			return api.ErrTwice
		}
	case api.StmtFor:
		if !bound(s.A, may) || !bound(s.B, may) {
			return api.ErrBound
		}
	}
	counted := func(x api.Expr) bool {
		return x.Kind != api.ExprCall || len(x.Args) == counts[x.Name]
	}
	if !overExprs(s.A, counted) || !overExprs(s.B, counted) {
		return api.ErrCount
	}
	return api.OK
}

// twice tells whether two cases have one number.
func twice(cases []api.Case) bool {
	seen := map[int64]int{}
	for _, c := range cases {
		seen[c.N]++
	}
	return len(seen) < len(cases)
}
