package tree

import "soffit/api"

// The fields beside Kind, a bit each, so that those that count may be held against those that are not zero at once.
const (
	hasName = 1 << iota
	hasN
	hasA
	hasB
	hasBody
	hasElse
	hasCases
)

// stmtFields has the fields that count of each kind of statement.
var stmtFields = [...]int{
	api.StmtLet:    hasName | hasA,
	api.StmtArray:  hasName | hasN,
	api.StmtAssign: hasName | hasA,
	api.StmtStore:  hasName | hasA | hasB,
	api.StmtIf:     hasA | hasBody | hasElse,
	api.StmtSwitch: hasA | hasCases | hasElse,
	api.StmtFor:    hasName | hasA | hasB | hasBody,
	api.StmtBreak:  0,
	api.StmtReturn: hasA,
	api.StmtCall:   hasA,
}

// anyArgs stands for no number of arguments in particular.
const anyArgs = -1

// exprForm is what is said of a kind of expression: the fields that count beside Args, how many arguments it has, its rank, and its sign.
type exprForm struct {
	fields, args, rank int
	sign               string
}

var exprForms = [...]exprForm{
	api.ExprNumber: {hasN, 0, 9, ""},
	api.ExprName:   {hasName, 0, 9, ""},
	api.ExprIndex:  {hasName, 1, 9, ""},
	api.ExprCall:   {hasName, anyArgs, 9, ""},
	api.ExprNeg:    {0, 1, 8, "-"},
	api.ExprNot:    {0, 1, 8, "!"},
	api.ExprAdd:    {0, 2, 6, "+"},
	api.ExprSub:    {0, 2, 6, "-"},
	api.ExprMul:    {0, 2, 7, "*"},
	api.ExprDiv:    {0, 2, 7, "/"},
	api.ExprRem:    {0, 2, 7, "%"},
	api.ExprEq:     {0, 2, 4, "=="},
	api.ExprNe:     {0, 2, 4, "!="},
	api.ExprLt:     {0, 2, 5, "<"},
	api.ExprLe:     {0, 2, 5, "<="},
	api.ExprGt:     {0, 2, 5, ">"},
	api.ExprGe:     {0, 2, 5, ">="},
	api.ExprAnd:    {0, 2, 3, "&&"},
	api.ExprOr:     {0, 2, 2, "||"},
	api.ExprChoose: {0, 3, 1, ""},
}

func isStmt(kind int) bool { return api.StmtLet <= kind && kind <= api.StmtCall }

func isExpr(kind int) bool { return api.ExprNumber <= kind && kind <= api.ExprChoose }

// stmtUses tells which fields of a statement are not zero.
func stmtUses(s api.Stmt) int {
	return bit(hasName, s.Name != "") | bit(hasN, s.N != 0) | bit(hasA, !zero(s.A)) | bit(hasB, !zero(s.B)) |
		bit(hasBody, len(s.Body) > 0) | bit(hasElse, len(s.Else) > 0) | bit(hasCases, len(s.Cases) > 0)
}

// exprUses tells which fields of an expression beside Args are not zero.
func exprUses(e api.Expr) int {
	return bit(hasName, e.Name != "") | bit(hasN, e.N != 0)
}

func bit(field int, on bool) int {
	if on {
		return field
	}
	return 0
}

// zero tells whether an expression is one of zeros, which stands for none.
func zero(e api.Expr) bool {
	return e.Kind == 0 && exprUses(e) == 0 && len(e.Args) == 0
}

// bodies tells a statement's lists of statements, in the order of the text.
func bodies(s api.Stmt) [][]api.Stmt {
	all := [][]api.Stmt{s.Body}
	for _, c := range s.Cases {
		all = append(all, c.Body)
	}
	return append(all, s.Else)
}
