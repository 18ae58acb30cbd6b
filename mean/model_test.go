package mean_test

import (
	"fmt"
	"math/big"
	"math/rand/v2"
	"slices"
	"testing"

	"soffit/api"
	"soffit/mean"
	"soffit/ranges"
	"soffit/tree"
)

// model says the chapter in whole numbers without end, with names as they are written: a variable is looked for in the scopes around, an array's words hang on the call and on the statement's path, and what ends all is handed back.
type model struct {
	p            api.Program
	most, rounds int64
	words        map[string]*big.Int // by call, path and index; none: 0
}

// scope is one name's binding, and those ahead of it.
type scope struct {
	name   string
	value  *big.Int
	path   string // of an array's statement
	size   int64
	around *scope
}

func (s *scope) of(name string) *scope {
	for s.name != name {
		s = s.around
	}
	return s
}

// How a list of statements ends, beside the errors, which are above 0.
const (
	modelBreak  = api.Errno(-1)
	modelReturn = api.Errno(-2)
)

func (m *model) begin() api.Errno {
	if m.rounds >= m.most {
		return api.ErrLong
	}
	m.rounds++
	return api.OK
}

func (m *model) call(fn int, args []*big.Int) (*big.Int, api.Errno) {
	if e := m.begin(); e != api.OK {
		return nil, e
	}
	var s *scope
	for i, q := range m.p.Funcs[fn].Params {
		s = &scope{name: q.Name, value: args[i], around: s}
	}
	v, e := m.list(m.p.Funcs[fn].Body, fmt.Sprint(m.rounds), s)
	switch e {
	case modelReturn:
		return v, api.OK
	case api.OK:
		return new(big.Int), api.OK
	}
	return nil, e
}

func (m *model) list(list []api.Stmt, path string, s *scope) (*big.Int, api.Errno) {
	for i, one := range list {
		own := fmt.Sprintf("%s.%d", path, i)
		var v *big.Int
		var e api.Errno
		switch one.Kind {
		case api.StmtLet:
			v, e = m.expr(one.A, s)
			s = &scope{name: one.Name, value: v, around: s}
		case api.StmtArray:
			s = &scope{name: one.Name, path: own, size: one.N, around: s}
		default:
			v, e = m.stmt(one, own, s)
		}
		if e != api.OK {
			return v, e
		}
	}
	return nil, api.OK
}

func (m *model) stmt(one api.Stmt, path string, s *scope) (*big.Int, api.Errno) {
	if one.Kind == api.StmtBreak {
		return nil, modelBreak
	}
	a, e := m.expr(one.A, s)
	if e != api.OK {
		return nil, e
	}
	switch one.Kind {
	case api.StmtAssign:
		s.of(one.Name).value = a
	case api.StmtStore:
		key, e := s.of(one.Name).word(a)
		if e != api.OK {
			return nil, e
		}
		b, e := m.expr(one.B, s)
		if e != api.OK {
			return nil, e
		}
		m.words[key] = b
	case api.StmtIf:
		if a.Sign() == 0 {
			return m.list(one.Else, path+"e", s)
		}
		return m.list(one.Body, path+"b", s)
	case api.StmtSwitch:
		for i, c := range one.Cases {
			if a.Cmp(big.NewInt(c.N)) == 0 {
				return m.list(c.Body, fmt.Sprintf("%sc%d", path, i), s)
			}
		}
		return m.list(one.Else, path+"e", s)
	case api.StmtFor:
		b, e := m.expr(one.B, s)
		if e != api.OK {
			return nil, e
		}
		return m.loop(one, a, b, path, s)
	case api.StmtReturn:
		return a, modelReturn
	}
	return nil, api.OK
}

func (m *model) loop(one api.Stmt, a, b *big.Int, path string, s *scope) (*big.Int, api.Errno) {
	for ; a.Cmp(b) < 0; a = new(big.Int).Add(a, big.NewInt(1)) {
		if e := m.begin(); e != api.OK {
			return nil, e
		}
		v, e := m.list(one.Body, path+"b", &scope{name: one.Name, value: a, around: s})
		if e == modelBreak {
			return nil, api.OK
		}
		if e != api.OK {
			return v, e
		}
	}
	return nil, api.OK
}

func (s *scope) word(index *big.Int) (string, api.Errno) {
	if index.Sign() < 0 || index.Cmp(big.NewInt(s.size)) >= 0 {
		return "", api.TrapIndex
	}
	return s.path + "[" + index.String(), api.OK
}

func (m *model) expr(x api.Expr, s *scope) (*big.Int, api.Errno) {
	switch x.Kind {
	case api.ExprNumber:
		return big.NewInt(x.N), api.OK
	case api.ExprName:
		return s.of(x.Name).value, api.OK
	case api.ExprAnd, api.ExprOr, api.ExprChoose:
		return m.choice(x, s)
	}
	var args []*big.Int
	for _, y := range x.Args {
		v, e := m.expr(y, s)
		if e != api.OK {
			return nil, e
		}
		args = append(args, v)
	}
	switch x.Kind {
	case api.ExprIndex:
		key, e := s.of(x.Name).word(args[0])
		if v := m.words[key]; v != nil {
			return v, e
		}
		return new(big.Int), e
	case api.ExprCall:
		return m.called(x.Name, args)
	case api.ExprNeg:
		return big.NewInt(round(new(big.Int).Neg(args[0]))), api.OK
	case api.ExprNot:
		return truth(args[0].Sign() == 0), api.OK
	}
	v, e := two(x.Kind, args[0], args[1])
	if e != api.OK {
		return nil, e
	}
	return big.NewInt(round(v)), api.OK
}

func (m *model) called(name string, args []*big.Int) (*big.Int, api.Errno) {
	fn := slices.IndexFunc(m.p.Funcs, func(f api.Fn) bool { return f.Name == name })
	for i, q := range m.p.Funcs[fn].Params {
		if args[i].Cmp(big.NewInt(q.Lo)) < 0 || args[i].Cmp(big.NewInt(q.Hi)) > 0 {
			return nil, api.TrapArg
		}
	}
	return m.call(fn, args)
}

func (m *model) choice(x api.Expr, s *scope) (*big.Int, api.Errno) {
	v, e := m.expr(x.Args[0], s)
	if e != api.OK {
		return nil, e
	}
	is := v.Sign() != 0
	if x.Kind == api.ExprChoose {
		if is {
			return m.expr(x.Args[1], s)
		}
		return m.expr(x.Args[2], s)
	}
	if is != (x.Kind == api.ExprAnd) {
		return truth(is), api.OK
	}
	v, e = m.expr(x.Args[1], s)
	if e != api.OK {
		return nil, e
	}
	return truth(v.Sign() != 0), api.OK
}

func modelRun(p api.Program, fn int, args []int64, most int64) api.Meaning {
	m := &model{p: p, most: most, words: map[string]*big.Int{}}
	var given []*big.Int
	for _, a := range args {
		given = append(given, big.NewInt(a))
	}
	v, e := m.call(fn, given)
	if e != api.OK {
		return api.Meaning{E: e, Rounds: m.rounds}
	}
	return api.Meaning{V: v.Int64(), Rounds: m.rounds}
}

// maker makes programs at random that may be, few of which trap at once.
type maker struct {
	*rand.Rand
	p      *api.Program
	wild   int // one thing of so many may trap easily
	params []string
	locals []string
	arrays []api.Stmt
	loops  []string
	left   int
}

func (m *maker) wildly() bool { return m.IntN(m.wild) == 0 }

func of[T any](m *maker, list []T) T { return list[m.IntN(len(list))] }

func (m *maker) number() api.Expr {
	if m.IntN(12) == 0 {
		return api.Expr{Kind: api.ExprNumber, N: of(m, []int64{greatest, greatest - 1, 1 << 62, 1 << 32, 1 << 31, 3037000499})}
	}
	return api.Expr{Kind: api.ExprNumber, N: m.Int64N(5)}
}

func kind2(kind int, x, y api.Expr) api.Expr {
	return api.Expr{Kind: kind, Args: []api.Expr{x, y}}
}

func number(n int64) api.Expr { return api.Expr{Kind: api.ExprNumber, N: n} }

func (m *maker) expr(deep int) api.Expr {
	m.left--
	kind := api.ExprNumber + m.IntN(api.ExprChoose)
	if deep > 3 || m.left < 0 || m.IntN(3) == 0 {
		kind = api.ExprName
	}
	known := slices.Concat(m.params, m.locals, m.loops)
	inner := func() api.Expr { return m.expr(deep + 1) }
	switch {
	case kind == api.ExprName && len(known) > 0:
		return api.Expr{Kind: kind, Name: of(m, known)}
	case kind == api.ExprIndex && len(m.arrays) > 0:
		a := of(m, m.arrays)
		return api.Expr{Kind: kind, Name: a.Name, Args: []api.Expr{m.index(a.N, inner)}}
	case kind == api.ExprCall && len(m.p.Funcs) > 0:
		return m.call(inner)
	case kind <= api.ExprCall:
		return m.number()
	case kind <= api.ExprNot:
		return api.Expr{Kind: kind, Args: []api.Expr{inner()}}
	case kind == api.ExprDiv || kind == api.ExprRem:
		return kind2(kind, inner(), m.divisor(inner))
	case kind == api.ExprChoose:
		return api.Expr{Kind: kind, Args: []api.Expr{inner(), inner(), inner()}}
	}
	return kind2(kind, inner(), inner())
}

func (m *maker) divisor(inner func() api.Expr) api.Expr {
	switch x := inner(); {
	case m.wildly():
		return x
	case m.IntN(2) == 0:
		return api.Expr{Kind: api.ExprChoose, Args: []api.Expr{x, x, {Kind: api.ExprNeg, Args: []api.Expr{number(1)}}}}
	}
	return number(1 + m.Int64N(3))
}

// index is mostly one that the array has.
func (m *maker) index(size int64, inner func() api.Expr) api.Expr {
	switch x := inner(); {
	case m.wildly():
		return x
	case m.IntN(2) == 0: // the rest of a rest is 0 or above, where the first one is brought up
		return kind2(api.ExprRem, kind2(api.ExprAdd, kind2(api.ExprRem, x, number(size)), number(size)), number(size))
	}
	return number(m.Int64N(size))
}

func (m *maker) call(arg func() api.Expr) api.Expr {
	f := of(m, m.p.Funcs)
	x := api.Expr{Kind: api.ExprCall, Name: f.Name}
	for _, q := range f.Params {
		a := arg()
		if !m.wildly() && q.Lo <= 0 && q.Hi >= 0 {
			a = kind2(api.ExprRem, a, number(min(q.Hi, -q.Lo)+1))
		} else if !m.wildly() && q.Hi >= 0 {
			a = number(q.Hi)
		}
		x.Args = append(x.Args, a)
	}
	return x
}

// bound is mostly small.
func (m *maker) bound(deep int) api.Expr {
	known := slices.Concat(m.params, m.loops)
	inner := func() api.Expr { return m.bound(deep + 1) }
	switch k := m.IntN(9); {
	case k < 2 && deep < 3:
		return kind2(of(m, []int{api.ExprAdd, api.ExprSub, api.ExprMul}), inner(), inner())
	case k < 3 && deep < 3:
		return api.Expr{Kind: api.ExprNeg, Args: []api.Expr{inner()}}
	case k < 6 && len(known) > 0:
		return api.Expr{Kind: api.ExprName, Name: of(m, known)}
	}
	return number(m.Int64N(12))
}

// list is a list of statements; what is declared in it ends with it.
func (m *maker) list(deep int) []api.Stmt {
	locals, arrays := len(m.locals), len(m.arrays)
	var list []api.Stmt
	for n := 1 + m.IntN(5); n > 0 && m.left > 0; n-- {
		list = append(list, m.stmt(deep))
	}
	m.locals, m.arrays = m.locals[:locals], m.arrays[:arrays]
	return list
}

// free is a name that is not known, of a few, so that one name is of several kinds within one function.
func (m *maker) free() string {
	known := slices.Concat(m.params, m.locals, m.loops)
	for _, a := range m.arrays {
		known = append(known, a.Name)
	}
	for i := range 26 {
		if s := string(rune('a' + i)); !slices.Contains(known, s) && m.IntN(2) == 0 {
			return s
		}
	}
	for i := 0; ; i++ {
		if s := fmt.Sprint("z", i); !slices.Contains(known, s) {
			return s
		}
	}
}

func (m *maker) stmt(deep int) api.Stmt {
	m.left--
	kind := api.StmtLet + m.IntN(api.StmtCall)
	if kind == api.StmtReturn && m.IntN(6) > 0 {
		kind = of(m, []int{api.StmtFor, api.StmtAssign})
	}
	written := slices.Concat(m.params, m.locals)
	if kind == api.StmtBreak && len(m.loops) == 0 || kind == api.StmtAssign && len(written) == 0 || kind == api.StmtStore && len(m.arrays) == 0 || kind == api.StmtCall && len(m.p.Funcs) == 0 || deep > 5 && kind >= api.StmtIf && kind <= api.StmtFor {
		kind = api.StmtLet + m.IntN(2)
	}
	any := func() api.Expr { return m.expr(0) }
	switch kind {
	case api.StmtLet:
		s := api.Stmt{Kind: kind, A: m.expr(0), Name: m.free()}
		m.locals = append(m.locals, s.Name)
		return s
	case api.StmtArray:
		s := api.Stmt{Kind: kind, Name: m.free(), N: 1 + m.Int64N(4)}
		m.arrays = append(m.arrays, s)
		return s
	case api.StmtAssign:
		return api.Stmt{Kind: kind, Name: of(m, written), A: any()}
	case api.StmtStore:
		a := of(m, m.arrays)
		return api.Stmt{Kind: kind, Name: a.Name, A: m.index(a.N, any), B: any()}
	case api.StmtCall:
		return api.Stmt{Kind: kind, A: m.call(any)}
	case api.StmtIf, api.StmtSwitch:
		return m.choice(kind, deep)
	case api.StmtFor:
		s := api.Stmt{Kind: kind, Name: m.free(), A: number(m.Int64N(2)), B: m.bound(0)}
		if m.IntN(2) == 0 {
			s.A = m.bound(0)
		}
		m.loops = append(m.loops, s.Name)
		s.Body = m.list(deep + 1)
		m.loops = m.loops[:len(m.loops)-1]
		return s
	case api.StmtReturn:
		return api.Stmt{Kind: kind, A: any()}
	}
	return api.Stmt{Kind: api.StmtBreak}
}

func (m *maker) choice(kind, deep int) api.Stmt {
	s := api.Stmt{Kind: kind, A: m.expr(1)}
	if kind == api.StmtIf {
		s.Body = m.list(deep + 1)
	}
	for i := range m.IntN(4) {
		if kind == api.StmtSwitch {
			s.Cases = append(s.Cases, api.Case{N: int64(i) - 1, Body: m.list(deep + 1)})
		}
	}
	if m.IntN(2) == 0 {
		s.Else = m.list(deep + 1)
	}
	return s
}

func (m *maker) program() api.Program {
	p := api.Program{}
	m.p = &p
	m.wild = of(m, []int{1, 4, 30, 300})
	for i := range 1 + m.IntN(4) {
		f := api.Fn{Name: "f" + string(rune('0'+i))}
		m.params, m.locals, m.arrays, m.loops = nil, nil, nil, nil
		for range m.IntN(4) {
			q := api.Param{Name: m.free(), Lo: m.Int64N(7) - 4}
			q.Hi = q.Lo + m.Int64N(8)
			m.params = append(m.params, q.Name)
			f.Params = append(f.Params, q)
		}
		m.left = 30 + m.IntN(200)
		f.Body = m.body()
		p.Funcs = append(p.Funcs, f)
	}
	return p
}

// body is a function's: what becomes of it is summed up in a local, and returned at its end.
func (m *maker) body() []api.Stmt {
	sum := m.free()
	m.locals = append(m.locals, sum)
	body := []api.Stmt{{Kind: api.StmtLet, Name: sum, A: number(1)}}
	for range 3 + m.IntN(4) {
		body = append(body, m.stmt(1))
	}
	last := api.Expr{Kind: api.ExprName, Name: sum}
	for _, s := range slices.Concat(m.params, m.locals) {
		last = kind2(api.ExprAdd, kind2(api.ExprMul, last, number(3)), api.Expr{Kind: api.ExprName, Name: s})
	}
	return append(body, api.Stmt{Kind: api.StmtReturn, A: last})
}

func (m *maker) args(f api.Fn) []int64 {
	var args []int64
	for _, q := range f.Params {
		args = append(args, q.Lo+m.Int64N(q.Hi-q.Lo+1))
	}
	return args
}

func text(p api.Program) string {
	text, _ := tree.Print(p)
	return text
}

// P6.1 and P6.2: programs at random come to what the model has it, with rounds enough, just enough and too few.
func TestAgainstModel(t *testing.T) {
	m := &maker{Rand: rand.New(rand.NewPCG(6, 1))}
	seen := map[api.Errno]int{}
	long, valued := 0, 0
	for range 3000 {
		p := m.program()
		if f := ranges.Check(p); f.E != api.OK {
			t.Fatalf("%v of\n%.2000s", f, text(p))
		}
		for fn, f := range p.Funcs {
			args := m.args(f)
			want := modelRun(p, fn, args, 60)
			for _, most := range []int64{60, want.Rounds, m.Int64N(want.Rounds + 1), max(0, want.Rounds-1)} {
				want := want
				if most < want.Rounds || most == want.Rounds && want.E == api.ErrLong {
					want = api.Meaning{E: api.ErrLong, Rounds: most}
				}
				if got := mean.Run(p, f.Name, args, most); got != want {
					t.Fatalf("%s(%v) with %d: %v, not %v, of\n%.2000s", f.Name, args, most, got, want, text(p))
				}
			}
			seen[want.E]++
			if want.E == api.OK && want.Rounds > 9 {
				long++
			}
			if want.V != 0 {
				valued++
			}
		}
	}
	for _, e := range []api.Errno{api.OK, api.TrapDivide, api.TrapIndex, api.TrapArg, api.ErrLong} {
		if seen[e] < 100 {
			t.Errorf("error %d comes %d times only", e, seen[e])
		}
	}
	if long < 500 || valued < 3000 {
		t.Errorf("%d are long, %d have a value", long, valued)
	}
}
