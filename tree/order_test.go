package tree_test

import (
	"testing"

	"soffit/api"
)

// slip is one thing that is done wrong to a program, and the fault that it makes of it.
type slip struct {
	what string
	do   func(*api.Program)
	want api.Fault
}

// base has, in this order: a head with two parameters; an assignment; a switch; an if, 28 deep, around an array, a call and a store.
func base() api.Program {
	inner := []api.Stmt{{Kind: api.StmtArray, Name: "t", N: 4}, {Kind: api.StmtCall, A: call("g", num(1), name("a"))}, {Kind: api.StmtStore, Name: "t", A: num(1), B: negated(2, num(1))}}
	return api.Program{Widen: []int64{1, 2}, Funcs: []api.Fn{{Name: "g"}, {Name: "f", Params: []api.Param{{Name: "a"}, {Name: "b"}}, Body: []api.Stmt{
		{Kind: api.StmtAssign, Name: "x", A: call("g", num(1), index("t", num(2)))},
		{Kind: api.StmtSwitch, A: num(1), Cases: []api.Case{{N: 1}, {N: 2, Body: stops(1)}}, Else: stops(1)},
		nested(28, inner...),
	}}}}
}

// at tells the place of base's innermost statements: within so many ifs as are there.
func at(p *api.Program) []api.Stmt {
	list := p.Funcs[1].Body[2].Body
	for list[0].Kind == api.StmtIf {
		list = list[0].Body
	}
	return list
}

// slips are in the order of P2.1.
func slips() []slip {
	whole := func(e api.Errno) api.Fault { return api.Fault{E: e} }
	stmt := func(e api.Errno, n int) api.Fault { return api.Fault{E: e, Func: 1, At: n} }
	head := func(e api.Errno) api.Fault { return stmt(e, 0) }
	return []slip{
		{"too many thresholds", func(p *api.Program) { p.Widen = append(p.Widen, make([]int64, api.MaxThresholds-1)...) }, whole(api.ErrMany)},
		{"a least threshold", func(p *api.Program) { p.Widen = append(p.Widen, least) }, whole(api.ErrArg)},
		{"a fall of thresholds", func(p *api.Program) { p.Widen[0] = 3 }, whole(api.ErrOrder)},
		{"too many functions", func(p *api.Program) { p.Funcs = append(p.Funcs, make([]api.Fn, api.MaxFuncs)...) }, whole(api.ErrMany)},
		{"too many parts", func(p *api.Program) { p.Funcs[1].Body = append(p.Funcs[1].Body, stops(api.MaxNodes)...) }, whole(api.ErrMany)},
		{"a wrong statement of the function ahead", func(p *api.Program) { p.Funcs[0].Body = make([]api.Stmt, 1) }, api.Fault{E: api.ErrForm, At: 1}},
		{"its name", func(p *api.Program) { p.Funcs[1].Name = "fn" }, head(api.ErrName)},
		{"too many parameters", func(p *api.Program) {
			p.Funcs[1].Params = append(p.Funcs[1].Params, make([]api.Param, api.MaxParams)...)
		}, head(api.ErrMany)},
		{"a parameter's name", func(p *api.Program) { p.Funcs[1].Params[0].Name = "" }, head(api.ErrName)},
		{"a parameter's Lo", func(p *api.Program) { p.Funcs[1].Params[0].Lo = least }, head(api.ErrArg)},
		{"the next parameter's name", func(p *api.Program) { p.Funcs[1].Params[1].Name = "" }, head(api.ErrName)},
		{"the next parameter's Hi", func(p *api.Program) { p.Funcs[1].Params[1].Hi = least }, head(api.ErrArg)},
		{"an assignment's N", func(p *api.Program) { p.Funcs[1].Body[0].N = -1 }, stmt(api.ErrForm, 1)},
		{"an assignment's name", func(p *api.Program) { p.Funcs[1].Body[0].Name = "X" }, stmt(api.ErrName, 1)},
		{"its call's N", func(p *api.Program) { p.Funcs[1].Body[0].A.N = 1 }, stmt(api.ErrForm, 1)},
		{"its call's name", func(p *api.Program) { p.Funcs[1].Body[0].A.Name = "X" }, stmt(api.ErrName, 1)},
		{"its first argument", func(p *api.Program) { p.Funcs[1].Body[0].A.Args[0].N = -1 }, stmt(api.ErrArg, 1)},
		{"its second argument", func(p *api.Program) { p.Funcs[1].Body[0].A.Args[1].Name = "" }, stmt(api.ErrName, 1)},
		{"that one's argument", func(p *api.Program) { p.Funcs[1].Body[0].A.Args[1].Args[0].N = -1 }, stmt(api.ErrArg, 1)},
		{"a switch's name", func(p *api.Program) { p.Funcs[1].Body[1].Name = "x" }, stmt(api.ErrForm, 2)},
		{"a case's number", func(p *api.Program) { p.Funcs[1].Body[1].Cases[1].N = least }, stmt(api.ErrArg, 2)},
		{"a switch's expression", func(p *api.Program) { p.Funcs[1].Body[1].A.Name = "x" }, stmt(api.ErrForm, 2)},
		{"a case's statement", func(p *api.Program) { p.Funcs[1].Body[1].Cases[1].Body[0].Kind = 0 }, stmt(api.ErrForm, 3)},
		{"a switch's else", func(p *api.Program) { p.Funcs[1].Body[1].Else[0].Name = "x" }, stmt(api.ErrForm, 4)},
		{"an array's A", func(p *api.Program) { at(p)[0].A.N = 1 }, stmt(api.ErrForm, 33)},
		{"an array's name", func(p *api.Program) { at(p)[0].Name = "" }, stmt(api.ErrName, 33)},
		{"an array's length", func(p *api.Program) { at(p)[0].N = -1 }, stmt(api.ErrArg, 33)},
		{"a call's B", func(p *api.Program) { at(p)[1].B.Kind = 1 }, stmt(api.ErrForm, 34)},
		{"a call's argument", func(p *api.Program) { at(p)[1].A.Args[1].Kind = 21 }, stmt(api.ErrForm, 34)},
		{"a store's A", func(p *api.Program) { at(p)[2].A.N = -1 }, stmt(api.ErrArg, 35)},
		{"a store's B, too deep", func(p *api.Program) { at(p)[2].B = negated(3, num(1)) }, stmt(api.ErrDeep, 35)},
	}
}

// P2.1: of any two things that are wrong the first one is told.
func TestOrder(t *testing.T) {
	fault(t, "nothing wrong", base(), api.Fault{})
	all := slips()
	for i, first := range all {
		p := base()
		first.do(&p)
		fault(t, first.what, p, first.want)
		for _, second := range all[i+1:] {
			p := base()
			second.do(&p)
			first.do(&p)
			fault(t, first.what+", and "+second.what, p, first.want)
		}
	}
}
