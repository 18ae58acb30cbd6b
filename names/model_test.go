package names_test

import (
	"math/rand/v2"
	"slices"
	"testing"

	"soffit/api"
	"soffit/names"
	"soffit/scan"
	"soffit/tree"
)

// stretch is a variable: the numbers of the first and of the last statement in which it is known.
type stretch struct {
	name        string
	from, to    int
	array, loop bool
}

// model says the chapter without scopes: the statements of a function stand in one row, and each variable is known in a stretch of that row.
type model struct {
	ahead  []string // functions
	row    []api.Stmt
	vars   []stretch
	bodies [][2]int // stretches that are loops' bodies
}

// lay puts a list of statements into the row, and tells the number of the last one.
func (m *model) lay(list []api.Stmt) int {
	var own []int
	for _, s := range list {
		m.row = append(m.row, s)
		at := len(m.row)
		switch s.Kind {
		case api.StmtLet, api.StmtArray:
			own = append(own, len(m.vars))
			m.vars = append(m.vars, stretch{name: s.Name, from: at + 1, array: s.Kind == api.StmtArray})
		case api.StmtFor:
			end := m.lay(s.Body)
			m.vars = append(m.vars, stretch{name: s.Name, from: at + 1, to: end, loop: true})
			m.bodies = append(m.bodies, [2]int{at + 1, end})
		case api.StmtIf, api.StmtSwitch:
			m.lay(s.Body)
			for _, c := range s.Cases {
				m.lay(c.Body)
			}
			m.lay(s.Else)
		}
	}
	for _, i := range own {
		m.vars[i].to = len(m.row)
	}
	return len(m.row)
}

// known is the variable of a name at a statement.
func (m *model) known(name string, at int) (stretch, bool) {
	for _, v := range m.vars {
		if v.name == name && v.from <= at && at <= v.to {
			return v, true
		}
	}
	return stretch{}, false
}

// asks are the questions about a statement: each tells an error, or OK.
func (m *model) asks(s api.Stmt, at int) []api.Errno {
	v, ok := m.known(s.Name, at)
	when := func(e api.Errno, on bool) api.Errno {
		if on {
			return e
		}
		return api.OK
	}
	a, b := m.askExpr(s.A, at), m.askExpr(s.B, at)
	switch s.Kind {
	case api.StmtLet, api.StmtFor:
		return append(append(a, b...), when(api.ErrTwice, ok))
	case api.StmtArray:
		return []api.Errno{when(api.ErrTwice, ok)}
	case api.StmtAssign:
		return append([]api.Errno{when(api.ErrName, !ok), when(api.ErrKind, v.array), when(api.ErrFixed, v.loop)}, a...)
	case api.StmtStore:
		return append(append([]api.Errno{when(api.ErrName, !ok), when(api.ErrKind, !v.array)}, a...), b...)
	case api.StmtBreak:
		in := slices.ContainsFunc(m.bodies, func(b [2]int) bool { return b[0] <= at && at <= b[1] })
		return []api.Errno{when(api.ErrBreak, !in)}
	}
	return a
}

func (m *model) askExpr(x api.Expr, at int) []api.Errno {
	var all []api.Errno
	v, ok := m.known(x.Name, at)
	switch {
	case x.Kind == api.ExprCall && !slices.Contains(m.ahead, x.Name), (x.Kind == api.ExprName || x.Kind == api.ExprIndex) && !ok:
		all = append(all, api.ErrName)
	case x.Kind == api.ExprName && v.array, x.Kind == api.ExprIndex && !v.array:
		all = append(all, api.ErrKind)
	}
	for _, y := range x.Args {
		all = append(all, m.askExpr(y, at)...)
	}
	return all
}

// modelFault is what is wrong first in a program whose form is right.
func modelFault(p api.Program) api.Fault {
	var ahead []string
	for i, f := range p.Funcs {
		if slices.Contains(ahead, f.Name) {
			return api.Fault{E: api.ErrTwice, Func: i}
		}
		m := model{ahead: ahead}
		end := m.lay(f.Body)
		for j, q := range f.Params {
			if slices.ContainsFunc(f.Params[:j], func(r api.Param) bool { return r.Name == q.Name }) {
				return api.Fault{E: api.ErrTwice, Func: i}
			}
			m.vars = append(m.vars, stretch{name: q.Name, from: 1, to: end})
		}
		for j, s := range m.row {
			for _, e := range m.asks(s, j+1) {
				if e != api.OK {
					return api.Fault{E: e, Func: i, At: j + 1}
				}
			}
		}
		ahead = append(ahead, f.Name)
	}
	return api.Fault{}
}

// modelCalls finds calls in a program's text: a name ahead of a parenthesis that is no head's.
func modelCalls(t *testing.T, p api.Program, fn int) []int {
	text, f := tree.Print(api.Program{Funcs: p.Funcs[fn : fn+1]})
	if f.E != api.OK {
		t.Fatal(f)
	}
	tokens, _, _ := scan.All(text)
	var found []int
	for i, g := range p.Funcs {
		for j := 3; j+1 < len(tokens); j++ {
			if tokens[j].Text == g.Name && tokens[j+1].Text == "(" {
				found = append(found, i)
				break
			}
		}
	}
	return found
}

// maker makes programs at random. A name is mostly one that may stand there, so that faults come late, and the others come too.
type maker struct {
	*rand.Rand
	wrong int           // one name of so many is any
	known [][3][]string // by list around: plain, arrays, loops' variables
	ahead []string
	left  int
}

var pool = []string{"a", "b", "c", "d", "e", "x", "y"}

func (m *maker) any() string { return pool[m.IntN(len(pool))] }

// of is a name of one of the kinds, if there is one.
func (m *maker) of(kinds ...int) string {
	var all []string
	for _, list := range m.known {
		for _, k := range kinds {
			all = append(all, list[k]...)
		}
	}
	if m.IntN(m.wrong) == 0 && len(kinds) < 3 {
		return m.of(0, 1, 2)
	}
	if len(all) == 0 || m.IntN(m.wrong) == 0 {
		return m.any()
	}
	return all[m.IntN(len(all))]
}

// free is a name that is not known.
func (m *maker) free() string {
	if m.IntN(m.wrong) == 0 {
		return m.any()
	}
	var all []string
	for _, list := range m.known {
		all = slices.Concat(all, list[0], list[1], list[2])
	}
	for range 20 {
		if s := m.any(); !slices.Contains(all, s) {
			return s
		}
	}
	return m.any()
}

func (m *maker) expr(deep int) api.Expr {
	m.left--
	kind := api.ExprNumber + m.IntN(api.ExprChoose)
	if deep > 3 || m.left < 0 || m.IntN(2) == 0 {
		kind = api.ExprNumber
		if m.IntN(4) > 0 {
			kind = api.ExprName
		}
	}
	missing := kind == api.ExprName && !m.has(0) && !m.has(2) || kind == api.ExprIndex && !m.has(1)
	if missing && m.IntN(m.wrong) > 0 {
		kind = api.ExprNumber
	}
	args := func(n int) []api.Expr {
		var list []api.Expr
		for range n {
			list = append(list, m.expr(deep+1))
		}
		return list
	}
	switch kind {
	case api.ExprNumber:
		return api.Expr{Kind: kind, N: m.Int64N(10)}
	case api.ExprName:
		return api.Expr{Kind: kind, Name: m.of(0, 2)}
	case api.ExprIndex:
		return api.Expr{Kind: kind, Name: m.of(1), Args: args(1)}
	case api.ExprCall:
		return m.call(args(m.IntN(4)))
	case api.ExprNeg, api.ExprNot:
		return api.Expr{Kind: kind, Args: args(1)}
	case api.ExprChoose:
		return api.Expr{Kind: kind, Args: args(3)}
	}
	return api.Expr{Kind: kind, Args: args(2)}
}

// call is a call of a function ahead, if there is one.
func (m *maker) call(args []api.Expr) api.Expr {
	if len(m.ahead) == 0 && m.IntN(m.wrong) > 0 {
		return api.Expr{Kind: api.ExprNumber}
	}
	name := m.any()
	if len(m.ahead) > 0 && m.IntN(m.wrong) > 0 {
		name = m.ahead[m.IntN(len(m.ahead))]
	}
	return api.Expr{Kind: api.ExprCall, Name: name, Args: args}
}

func (m *maker) list(deep int, loop bool, vars ...string) []api.Stmt {
	m.known = append(m.known, [3][]string{2: vars})
	var list []api.Stmt
	for n := m.IntN(5); n > 0 && m.left > 0; n-- {
		list = append(list, m.stmt(deep, loop))
	}
	m.known = m.known[:len(m.known)-1]
	return list
}

func (m *maker) has(kind int) bool {
	return slices.ContainsFunc(m.known, func(l [3][]string) bool { return len(l[kind]) > 0 })
}

func (m *maker) stmt(deep int, loop bool) api.Stmt {
	m.left--
	top := len(m.known) - 1
	kind := api.StmtLet + m.IntN(api.StmtCall)
	missing := kind == api.StmtBreak && !loop || kind == api.StmtAssign && !m.has(0) && !m.has(2) || kind == api.StmtStore && !m.has(1)
	if missing && m.IntN(m.wrong) > 0 || deep > 5 {
		kind = api.StmtLet + m.IntN(2)
	}
	switch kind {
	case api.StmtLet:
		s := api.Stmt{Kind: kind, A: m.expr(0), Name: m.free()}
		m.known[top][0] = append(m.known[top][0], s.Name)
		return s
	case api.StmtArray:
		s := api.Stmt{Kind: kind, Name: m.free(), N: m.Int64N(9)}
		m.known[top][1] = append(m.known[top][1], s.Name)
		return s
	case api.StmtAssign:
		name := m.of(0)
		if m.has(2) && m.IntN(m.wrong) < 4 {
			name = m.of(2)
		}
		return api.Stmt{Kind: kind, Name: name, A: m.expr(0)}
	case api.StmtStore:
		return api.Stmt{Kind: kind, Name: m.of(1), A: m.expr(0), B: m.expr(0)}
	case api.StmtIf:
		return api.Stmt{Kind: kind, A: m.expr(0), Body: m.list(deep+1, loop), Else: m.list(deep+1, loop)}
	case api.StmtSwitch:
		s := api.Stmt{Kind: kind, A: m.expr(0)}
		for range m.IntN(3) {
			s.Cases = append(s.Cases, api.Case{N: m.Int64N(9), Body: m.list(deep+1, loop)})
		}
		s.Else = m.list(deep+1, loop)
		return s
	case api.StmtFor:
		name := m.free()
		return api.Stmt{Kind: kind, Name: name, A: m.expr(0), B: m.expr(0), Body: m.list(deep+1, true, name)}
	case api.StmtReturn:
		return api.Stmt{Kind: kind, A: m.expr(0)}
	case api.StmtCall:
		if x := m.call(nil); x.Kind == api.ExprCall {
			return api.Stmt{Kind: kind, A: x}
		}
		return api.Stmt{Kind: api.StmtReturn, A: m.expr(0)}
	}
	return api.Stmt{Kind: api.StmtBreak}
}

func (m *maker) program() api.Program {
	var p api.Program
	m.wrong = []int{4, 30, 200, 5000}[m.IntN(4)]
	m.ahead = nil
	for range 1 + m.IntN(5) {
		f := api.Fn{Name: m.any()}
		for range 3 * m.IntN(m.wrong) {
			if slices.Contains(m.ahead, f.Name) {
				f.Name = m.any()
			}
		}
		m.known = [][3][]string{{}}
		for range m.IntN(3) {
			f.Params = append(f.Params, api.Param{Name: m.free(), Hi: 1})
			m.known[0][0] = append(m.known[0][0], f.Params[len(f.Params)-1].Name)
		}
		m.left = m.IntN(100)
		f.Body = m.list(1, false)
		p.Funcs = append(p.Funcs, f)
		m.ahead = append(m.ahead, f.Name)
	}
	return p
}

// P4.1 and P4.2: programs at random are answered as the model has it.
func TestAgainstModel(t *testing.T) {
	m := &maker{Rand: rand.New(rand.NewPCG(4, 1))}
	seen := map[api.Errno]int{}
	linked := 0
	for range 20000 {
		p := m.program()
		if f := tree.Check(p); f.E != api.OK {
			t.Fatalf("%v", f)
		}
		text, _ := tree.Print(p)
		want := modelFault(p)
		got := names.Check(p)
		if got != want {
			t.Fatalf("%v, not %v, of\n%.2000s", got, want, text)
		}
		seen[want.E]++
		for fn := range p.Funcs {
			var calls []int
			if want.E == api.OK {
				calls = modelCalls(t, p, fn)
				linked += len(calls)
			}
			if l := names.Calls(p, fn); !slices.Equal(l, calls) {
				t.Fatalf("%d calls %v, not %v, in\n%.2000s", fn, l, calls, text)
			}
		}
	}
	for _, e := range []api.Errno{api.OK, api.ErrTwice, api.ErrName, api.ErrKind, api.ErrFixed, api.ErrBreak} {
		if seen[e] < 100 {
			t.Errorf("error %d comes %d times only", e, seen[e])
		}
	}
	if linked < 5000 {
		t.Errorf("%d calls only", linked)
	}
}
