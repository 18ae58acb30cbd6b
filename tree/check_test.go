package tree_test

import (
	"fmt"
	"slices"
	"strings"
	"testing"

	"soffit/api"
	"soffit/tree"
)

// fault holds Check to a fault, and Print to the same one and no text.
func fault(t *testing.T, what string, p api.Program, want api.Fault) {
	t.Helper()
	if f := tree.Check(p); f != want {
		t.Errorf("%s: Check: %v, not %v", what, f, want)
	}
	s, f := tree.Print(p)
	if f != want || want.E != api.OK && s != "" {
		t.Errorf("%s: Print: %q, %v, not %v", what, s, f, want)
	}
}

func mark(t *testing.T, what string, s api.Stmt, e api.Errno) {
	t.Helper()
	want := api.Fault{E: e, Func: 1, At: 2}
	if e == api.OK {
		want = api.Fault{}
	}
	fault(t, what, api.Program{Funcs: []api.Fn{{Name: "g"}, {Name: "f", Body: []api.Stmt{stop(), s}}}}, want)
}

// P2.1, 1: of the whole program, the edges just met and passed by one.
func TestWhole(t *testing.T) {
	funcs := make([]api.Fn, api.MaxFuncs+1)
	for i := range funcs {
		funcs[i].Name = "f"
	}
	for _, c := range []struct {
		what string
		p    api.Program
		e    api.Errno
	}{
		{"all thresholds", api.Program{Widen: rising(api.MaxThresholds)}, api.OK},
		{"too many thresholds", api.Program{Widen: rising(api.MaxThresholds + 1)}, api.ErrMany},
		{"the one above the least number", api.Program{Widen: []int64{least + 1, most}}, api.OK},
		{"the least number", api.Program{Widen: []int64{least}}, api.ErrArg},
		{"the least number last", api.Program{Widen: []int64{0, 3, least}}, api.ErrArg},
		{"the least number behind a fall", api.Program{Widen: []int64{3, 0, least, 1}}, api.ErrArg},
		{"two the same", api.Program{Widen: []int64{3, 3}}, api.ErrOrder},
		{"the last two fall", api.Program{Widen: []int64{1, 3, 2}}, api.ErrOrder},
		{"the first two fall", api.Program{Widen: []int64{1, 0, 5}}, api.ErrOrder},
		{"a fall whose difference is brought round", api.Program{Widen: []int64{most, least + 1}}, api.ErrOrder},
		{"a rise whose difference is brought round", api.Program{Widen: []int64{least + 1, 0, most}}, api.OK},
		{"all functions", api.Program{Funcs: funcs[:api.MaxFuncs]}, api.OK},
		{"too many functions", api.Program{Funcs: funcs}, api.ErrMany},
		{"all parts", one(stops(api.MaxNodes)...), api.OK},
		{"too many parts", one(stops(api.MaxNodes + 1)...), api.ErrMany},
		{"too many expressions", one(back(call("g", make([]api.Expr, api.MaxNodes-1)...))), api.ErrMany},
		{"too many cases", one(api.Stmt{Kind: api.StmtSwitch, A: num(1), Cases: make([]api.Case, api.MaxNodes-1)}), api.ErrMany},
		{"parts of two functions", api.Program{Funcs: []api.Fn{{Name: "f", Body: stops(2048)}, {Name: "g", Body: stops(2049)}}}, api.ErrMany},
	} {
		fault(t, c.what, c.p, api.Fault{E: c.e})
	}
}

// P2.1, 2: of a function's head.
func TestHeads(t *testing.T) {
	params := make([]api.Param, api.MaxParams+1)
	for i := range params {
		params[i].Name = "a"
	}
	type head struct {
		what string
		f    api.Fn
		e    api.Errno
	}
	list := []head{
		{"all parameters", api.Fn{Name: "f", Params: params[:api.MaxParams]}, api.OK},
		{"too many parameters", api.Fn{Name: "f", Params: params}, api.ErrMany},
		{"too many parameters without names", api.Fn{Name: "f", Params: make([]api.Param, api.MaxParams+1)}, api.ErrMany},
		{"the longest name", api.Fn{Name: fullName, Params: []api.Param{{Name: fullName}}}, api.OK},
		{"Lo least", api.Fn{Name: "f", Params: []api.Param{{Name: "a"}, {Name: "b", Lo: least}}}, api.ErrArg},
		{"Hi least", api.Fn{Name: "f", Params: []api.Param{{Name: "a"}, {Name: "b", Hi: least}}}, api.ErrArg},
		{"the ones above least", api.Fn{Name: "f", Params: []api.Param{{Name: "a", Lo: least + 1, Hi: least + 1}}}, api.OK},
		{"a range without numbers", api.Fn{Name: "f", Params: []api.Param{{Name: "a", Lo: most, Hi: least + 1}}}, api.OK},
		{"one's number ahead of the next one's name", api.Fn{Name: "f", Params: []api.Param{{Name: "a", Lo: least}, {Name: "fn"}}}, api.ErrArg},
		{"one's name ahead of its number", api.Fn{Name: "f", Params: []api.Param{{Name: "fn", Lo: least}}}, api.ErrName},
		{"its name ahead of its parameters", api.Fn{Name: "fn", Params: params}, api.ErrName},
		{"its parameters ahead of its statements", api.Fn{Name: "f", Params: params, Body: make([]api.Stmt, 1)}, api.ErrMany},
	}
	for _, s := range noNames {
		list = append(list, head{"the name " + s, api.Fn{Name: s}, api.ErrName}, head{"a parameter " + s, api.Fn{Name: "f", Params: []api.Param{{Name: "a"}, {Name: s}}}, api.ErrName})
	}
	for _, c := range list {
		want := api.Fault{}
		if c.e != api.OK {
			want = api.Fault{E: c.e, Func: 2}
		}
		fault(t, c.what, api.Program{Funcs: []api.Fn{{Name: "g"}, {Name: "h", Body: stops(3)}, c.f}}, want)
	}
}

// stmtMisuses has for each field of a statement what makes it not zero.
func stmtMisuses() map[string][]func(*api.Stmt) {
	exprs := []api.Expr{num(1), {Kind: -1}, {N: 1}, {Name: "a"}, {Args: make([]api.Expr, 1)}}
	all := map[string][]func(*api.Stmt){
		"Name":  {func(s *api.Stmt) { s.Name = "x" }, func(s *api.Stmt) { s.Name = "fn" }},
		"N":     {func(s *api.Stmt) { s.N = 1 }, func(s *api.Stmt) { s.N = -1 }},
		"Body":  {func(s *api.Stmt) { s.Body = stops(1) }, func(s *api.Stmt) { s.Body = make([]api.Stmt, 1) }},
		"Else":  {func(s *api.Stmt) { s.Else = stops(1) }, func(s *api.Stmt) { s.Else = make([]api.Stmt, 1) }},
		"Cases": {func(s *api.Stmt) { s.Cases = make([]api.Case, 1) }},
	}
	for _, x := range exprs {
		all["A"] = append(all["A"], func(s *api.Stmt) { s.A = x })
		all["B"] = append(all["B"], func(s *api.Stmt) { s.B = x })
	}
	return all
}

// stmtCounts has the fields that count, by kind.
func stmtCounts() map[int]string {
	return map[int]string{
		api.StmtLet: " Name A ", api.StmtArray: " Name N ", api.StmtAssign: " Name A ", api.StmtStore: " Name A B ",
		api.StmtIf: " A Body Else ", api.StmtSwitch: " A Cases Else ", api.StmtFor: " Name A B Body ", api.StmtBreak: " ",
		api.StmtReturn: " A ", api.StmtCall: " A ",
	}
}

// P2.1, 2a: a field of a statement that doesn't count is not zero; lists without elements are zero.
func TestStmtFields(t *testing.T) {
	for kind, counts := range stmtCounts() {
		s := stmtOf(kind)
		mark(t, "a right one", s, api.OK)
		for field, misuses := range stmtMisuses() {
			if strings.Contains(counts, " "+field+" ") {
				continue
			}
			for i, misuse := range misuses {
				s := stmtOf(kind)
				misuse(&s)
				mark(t, fmt.Sprint("statement ", kind, ", ", field, " ", i), s, api.ErrForm)
			}
		}
		if s.Body == nil {
			s.Body = []api.Stmt{}
		}
		if s.Else == nil {
			s.Else = []api.Stmt{}
		}
		if s.Cases == nil {
			s.Cases = []api.Case{}
		}
		if s.A.Kind == 0 {
			s.A.Args = []api.Expr{}
		}
		if s.B.Kind == 0 {
			s.B.Args = []api.Expr{}
		}
		mark(t, fmt.Sprint("statement ", kind, ", empty lists"), s, api.OK)
	}
}

// P2.1, 2a: kinds that are not there, names that are none, numbers that may not be.
func TestStmtWrong(t *testing.T) {
	for _, kind := range []int{0, -1, api.StmtCall + 1, least, most} {
		mark(t, fmt.Sprint("statement ", kind), api.Stmt{Kind: kind}, api.ErrForm)
		s := stmtOf(api.StmtLet)
		s.Kind = kind
		mark(t, fmt.Sprint("statement ", kind, " with fields"), s, api.ErrForm)
	}
	for kind, counts := range stmtCounts() {
		if !strings.Contains(counts, " Name ") {
			continue
		}
		for _, none := range noNames {
			s := stmtOf(kind)
			s.Name = none
			mark(t, fmt.Sprintf("statement %d %q", kind, none), s, api.ErrName)
		}
		s := stmtOf(kind)
		s.Name = fullName
		mark(t, fmt.Sprint("statement ", kind, ", the longest name"), s, api.OK)
	}
	for n, e := range map[int64]api.Errno{least: api.ErrArg, -1: api.ErrArg, 0: api.OK, 1: api.OK, most: api.OK} {
		mark(t, fmt.Sprint("an array of ", n), api.Stmt{Kind: api.StmtArray, Name: "t", N: n}, e)
	}
	for n, e := range map[int64]api.Errno{least: api.ErrArg, least + 1: api.OK, -1: api.OK, 0: api.OK, most: api.OK} {
		mark(t, fmt.Sprint("a case ", n), api.Stmt{Kind: api.StmtSwitch, A: num(1), Cases: []api.Case{{N: 1}, {N: n}, {N: 2}}}, e)
	}
	for kind := range api.ExprChoose + 2 {
		if kind != api.ExprCall {
			mark(t, fmt.Sprint("a call of an expression ", kind), api.Stmt{Kind: api.StmtCall, A: exprOf(kind)}, api.ErrForm)
		}
	}
}

// P2.1, 2b: an A or B that counts may not be one of zeros.
func TestNoExpr(t *testing.T) {
	for kind, counts := range stmtCounts() {
		if strings.Contains(counts, " A ") {
			s := stmtOf(kind)
			s.A = api.Expr{}
			mark(t, fmt.Sprint("statement ", kind, " without A"), s, api.ErrForm)
		}
		if strings.Contains(counts, " B ") {
			s := stmtOf(kind)
			s.B = api.Expr{Args: []api.Expr{}}
			mark(t, fmt.Sprint("statement ", kind, " without B"), s, api.ErrForm)
		}
	}
}

// P2.1, 2b: expressions, at the top, as arguments, and as B.
func TestExprs(t *testing.T) {
	type looked struct {
		what string
		x    api.Expr
		e    api.Errno
	}
	var list []looked
	add := func(e api.Errno, x api.Expr, what ...any) { list = append(list, looked{fmt.Sprint(what...), x, e}) }
	for _, kind := range []int{0, -1, api.ExprChoose + 1, least, most} {
		add(api.ErrForm, api.Expr{Kind: kind}, "expression ", kind)
		add(api.ErrForm, api.Expr{Kind: kind, Args: []api.Expr{num(1), num(2)}}, "expression ", kind, " with arguments")
	}
	for kind := api.ExprNumber; kind <= api.ExprChoose; kind++ {
		x := exprOf(kind)
		add(api.OK, x, "expression ", kind)
		for n := range 5 {
			y := x
			y.Args = slices.Repeat([]api.Expr{num(1)}, n)
			e := api.ErrForm
			if n == len(x.Args) || kind == api.ExprCall {
				e = api.OK
			}
			add(e, y, "expression ", kind, " with ", n, " arguments")
		}
		if kind != api.ExprNumber {
			for _, n := range []int64{1, -1, least} {
				y := x
				y.N = n
				add(api.ErrForm, y, "expression ", kind, " with N ", n)
			}
		}
		for _, none := range noNames {
			y := x
			y.Name = none
			switch {
			case kind == api.ExprName || kind == api.ExprIndex || kind == api.ExprCall:
				add(api.ErrName, y, "expression ", kind, " named ", none)
			case none != "":
				add(api.ErrForm, y, "expression ", kind, " named ", none)
			}
		}
		if x.Name == "" {
			x.Name = "a"
			add(api.ErrForm, x, "expression ", kind, " with a name")
		} else {
			x.Name = fullName
			add(api.OK, x, "expression ", kind, " with the longest name")
		}
	}
	add(api.ErrArg, num(-1), "the number -1")
	add(api.ErrArg, num(least), "the least number")
	add(api.OK, num(most), "the greatest number")
	add(api.OK, api.Expr{Kind: api.ExprNumber, Args: []api.Expr{}}, "a number with a list without elements")
	for _, c := range list {
		mark(t, c.what, back(c.x), c.e)
		mark(t, c.what+" as an argument", back(op(api.ExprOr, num(1), call("g", num(1), c.x))), c.e)
		mark(t, c.what+" as B", api.Stmt{Kind: api.StmtStore, Name: "t", A: num(1), B: c.x}, c.e)
		mark(t, c.what+" as A", api.Stmt{Kind: api.StmtFor, Name: "i", A: c.x, B: num(1)}, c.e)
	}
}

// P2.1, 2: levels, just met and passed by one.
func TestLevels(t *testing.T) {
	array := stmtOf(api.StmtArray)
	wide := func(ifs int, s api.Stmt) api.Stmt { // the same by way of Else, of cases and of a switch's Else
		for i := range ifs {
			switch i % 3 {
			case 0:
				s = api.Stmt{Kind: api.StmtIf, A: num(1), Else: []api.Stmt{s}}
			case 1:
				s = api.Stmt{Kind: api.StmtSwitch, A: num(1), Cases: []api.Case{{N: 1}, {N: 2, Body: []api.Stmt{s}}}}
			case 2:
				s = api.Stmt{Kind: api.StmtSwitch, A: num(1), Else: []api.Stmt{s}}
			}
		}
		return s
	}
	for _, c := range []struct {
		what string
		s    api.Stmt
		want api.Fault
	}{
		{"a statement at the last level", nested(31, array), api.Fault{}},
		{"a statement below it", nested(32, array), api.Fault{E: api.ErrDeep, At: 32}},
		{"one in an else", wide(31, array), api.Fault{}},
		{"one in an else below it", wide(32, array), api.Fault{E: api.ErrDeep, At: 32}},
		{"an expression at the last level", nested(30, back(num(1))), api.Fault{}},
		{"an expression below it", nested(31, back(num(1))), api.Fault{E: api.ErrDeep, At: 32}},
		{"an argument at the last level", back(negated(30, num(1))), api.Fault{}},
		{"an argument below it", back(negated(31, num(1))), api.Fault{E: api.ErrDeep, At: 1}},
		{"an argument of B below it", api.Stmt{Kind: api.StmtStore, Name: "t", A: num(1), B: negated(31, num(1))}, api.Fault{E: api.ErrDeep, At: 1}},
		{"a last argument below it", nested(4, back(call("g", num(1), negated(26, num(1))))), api.Fault{E: api.ErrDeep, At: 5}},
		{"both", nested(20, back(negated(10, num(1)))), api.Fault{}},
		{"both, below it", nested(20, back(negated(11, num(1)))), api.Fault{E: api.ErrDeep, At: 21}},
		{"deep ahead of no such kind", nested(32, api.Stmt{}), api.Fault{E: api.ErrDeep, At: 32}},
		{"no such kind at the last level", nested(31, api.Stmt{}), api.Fault{E: api.ErrForm, At: 32}},
		{"an expression deep ahead of no such kind", back(negated(31, api.Expr{Kind: 99})), api.Fault{E: api.ErrDeep, At: 1}},
		{"no such kind of expression at the last level", back(negated(30, api.Expr{Kind: 99})), api.Fault{E: api.ErrForm, At: 1}},
		{"no call at the last level", nested(31, api.Stmt{Kind: api.StmtCall, A: num(1)}), api.Fault{E: api.ErrForm, At: 32}},
		{"a call at the last level", nested(31, api.Stmt{Kind: api.StmtCall, A: call("fn")}), api.Fault{E: api.ErrDeep, At: 32}},
	} {
		fault(t, c.what, one(c.s), c.want)
	}
}

// P2.1: a statement's number.
func TestNumbers(t *testing.T) {
	bad := api.Stmt{}
	all := func(list ...api.Stmt) []api.Stmt { return list }
	body := all(
		stop(), // 1
		api.Stmt{Kind: api.StmtIf, A: num(1), Body: all(stop(), stop()), Else: all(stop(), stop())},                                           // 2; 3, 4; 5, 6
		api.Stmt{Kind: api.StmtSwitch, A: num(1), Cases: []api.Case{{Body: all(stop())}, {}, {Body: all(stop(), stop())}}, Else: all(stop())}, // 7; 8; 9, 10; 11
		api.Stmt{Kind: api.StmtFor, Name: "i", A: num(1), B: num(2), Body: all(nested(1, stop(), stop()))},                                    // 12; 13; 14, 15
		stop(), // 16
	)
	p := api.Program{Funcs: []api.Fn{{Name: "f", Body: stops(3)}, {Name: "g", Body: body}, {Name: "h", Body: body}}}
	fault(t, "all right", p, api.Fault{})
	for at, s := range map[int]*api.Stmt{
		1: &body[0], 2: &body[1], 3: &body[1].Body[0], 4: &body[1].Body[1], 5: &body[1].Else[0], 6: &body[1].Else[1],
		7: &body[2], 8: &body[2].Cases[0].Body[0], 9: &body[2].Cases[2].Body[0], 10: &body[2].Cases[2].Body[1], 11: &body[2].Else[0],
		12: &body[3], 13: &body[3].Body[0], 14: &body[3].Body[0].Body[0], 15: &body[3].Body[0].Body[1], 16: &body[4],
	} {
		right := *s
		*s = bad
		fault(t, "one bad statement", p, api.Fault{E: api.ErrForm, Func: 1, At: at})
		*s = right
	}
}
