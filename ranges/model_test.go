package ranges_test

import (
	"math/rand/v2"
	"slices"
	"strings"
	"testing"

	"soffit/api"
	"soffit/names"
	"soffit/ranges"
	"soffit/scan"
	"soffit/tree"
)

// line is a statement as it is printed: its text, how far it stands in, and its number.
type line struct {
	text   string
	in, at int
}

// model says the chapter by a function's printed text alone: what lies within what is told by how far lines stand in.
type model struct {
	counts map[string]int // of the functions ahead
	all    []line         // with number 0: lines that begin no statement
	params []string
}

func newModel(t *testing.T, f api.Fn, counts map[string]int) *model {
	text, fault := tree.Print(api.Program{Funcs: []api.Fn{f}})
	if fault.E != api.OK {
		t.Fatal(fault)
	}
	m := &model{counts: counts}
	at := 0
	for l := range strings.Lines(text) {
		own := line{text: strings.TrimSpace(l), in: len(l) - len(strings.TrimLeft(l, " "))}
		first, _, _ := strings.Cut(own.text, " ")
		if !slices.Contains([]string{"fn", "}", "case", "else"}, first) {
			at++
			own.at = at
		}
		m.all = append(m.all, own)
	}
	for _, p := range f.Params {
		m.params = append(m.params, p.Name)
	}
	return m
}

// around are the lines within which the line number i lies, the nearest one first.
func (m *model) around(i int) []string {
	var found []string
	in := m.all[i].in
	for j := i - 1; j >= 0; j-- {
		if m.all[j].in < in {
			in = m.all[j].in
			found = append(found, m.all[j].text)
		}
	}
	return found
}

// loops are the variables of the loops around a line.
func (m *model) loops(i int) []string {
	var found []string
	for _, s := range m.around(i) {
		if strings.HasPrefix(s, "for ") {
			found = append(found, strings.Fields(s)[1])
		}
	}
	return found
}

// ends are the texts of a loop's A and B.
func ends(l line) (string, string, bool) {
	if !strings.HasPrefix(l.text, "for ") {
		return "", "", false
	}
	a, b, _ := strings.Cut(l.text, "..")
	return strings.SplitN(a, " ", 4)[3], strings.TrimSuffix(b, " {"), true
}

// made tells whether a text is made of what bounds are made of, with these names.
func made(text string, names []string) bool {
	tokens, _, _ := scan.All(text)
	for i, k := range tokens {
		applied := i+1 < len(tokens) && (tokens[i+1].Text == "(" || tokens[i+1].Text == "[")
		switch {
		case k.Kind == api.TokNumber:
		case k.Kind == api.TokName && slices.Contains(names, k.Text) && !applied:
		case k.Kind == api.TokSign && strings.Contains("+-*()", k.Text):
		default:
			return false
		}
	}
	return true
}

// miscounts tells whether a call in a text has another number of arguments.
func (m *model) miscounts(text string) bool {
	tokens, _, _ := scan.All(text)
	for i := 0; i+1 < len(tokens); i++ {
		if tokens[i].Kind != api.TokName || tokens[i+1].Text != "(" {
			continue
		}
		deep, args := 0, 1
		if tokens[i+2].Text == ")" {
			args = 0
		}
		for j := i + 1; ; j++ {
			switch tokens[j].Text {
			case "(", "[":
				deep++
			case ")", "]":
				deep--
			case ",":
				if deep == 1 {
					args++
				}
			}
			if deep == 0 {
				break
			}
		}
		if args != m.counts[tokens[i].Text] {
			return true
		}
	}
	return false
}

// sameCases tells whether two of the case lines that belong to the switch at line number i are the same.
func (m *model) sameCases(i int) bool {
	var seen []string
	for _, l := range m.all[i+1:] {
		if l.in <= m.all[i].in {
			break
		}
		if l.in == m.all[i].in+2 && strings.HasPrefix(l.text, "case ") {
			if slices.Contains(seen, l.text) {
				return true
			}
			seen = append(seen, l.text)
		}
	}
	return false
}

func (m *model) wrong(i int) api.Errno {
	l := m.all[i]
	fields := strings.Fields(l.text)
	if a, b, ok := ends(l); ok {
		known := append(m.loops(i), m.params...)
		if !made(a, known) || !made(b, known) {
			return api.ErrBound
		}
	}
	if fields[0] == "let" && len(fields) == 2 {
		n := strings.TrimSuffix(fields[1][strings.Index(fields[1], "[")+1:], "];")
		if n == "0" || len(n) > 4 || len(n) == 4 && n > "1024" {
			return api.ErrArg
		}
	}
	if fields[0] == "switch" && m.sameCases(i) {
		return api.ErrTwice
	}
	if m.miscounts(l.text) {
		return api.ErrCount
	}
	return api.OK
}

func modelFault(t *testing.T, p api.Program) api.Fault {
	if f := names.Check(p); f.E != api.OK {
		return f
	}
	counts := map[string]int{}
	for i, f := range p.Funcs {
		if slices.ContainsFunc(f.Params, func(q api.Param) bool { return q.Lo > q.Hi }) {
			return api.Fault{E: api.ErrEmpty, Func: i}
		}
		m := newModel(t, f, counts)
		for j, l := range m.all {
			if l.at == 0 {
				continue
			}
			if e := m.wrong(j); e != api.OK {
				return api.Fault{E: e, Func: i, At: l.at}
			}
		}
		counts[f.Name] = len(f.Params)
	}
	return api.Fault{}
}

// modelStraight tells whether a function's own text has nothing that bars it.
func modelStraight(t *testing.T, f api.Fn, params bool) bool {
	m := newModel(t, f, nil)
	for i, l := range m.all {
		tokens, _, _ := scan.All(l.text)
		for _, k := range tokens {
			if slices.Contains([]string{"if", "switch", "break", "&&", "||", "?"}, k.Text) {
				return false
			}
		}
		if tokens[0].Text == "return" && len(m.loops(i)) > 0 {
			return false
		}
		a, b, ok := ends(l)
		written := slices.ContainsFunc(m.all, func(l line) bool { return strings.HasPrefix(l.text, b+" =") })
		if ok && !(made(a, nil) && (made(b, nil) || params && slices.Contains(m.params, b) && !written)) {
			return false
		}
	}
	return true
}

// modelReach has the functions that a function calls, itself or by others, by calls upon calls, and itself.
func modelReach(p api.Program, fn int) []int {
	all := []int{fn}
	for _, c := range names.Calls(p, fn) {
		all = append(all, modelReach(p, c)...)
	}
	return all
}

// maker makes programs at random, mostly of right names.
type maker struct {
	*rand.Rand
	p      *api.Program
	wrong  int // one thing of so many is wrong
	calm   bool
	params []string
	locals []string
	arrays []string
	loops  []string
	left   int
}

func (m *maker) bad() bool { return m.IntN(m.wrong) == 0 }

func (m *maker) of(list []string) string { return list[m.IntN(len(list))] }

func (m *maker) number() api.Expr { return api.Expr{Kind: api.ExprNumber, N: m.Int64N(5)} }

func (m *maker) many(n int, one func() api.Expr) []api.Expr {
	var list []api.Expr
	for range n {
		list = append(list, one())
	}
	return list
}

func (m *maker) expr(deep int) api.Expr {
	m.left--
	kind := api.ExprNumber + m.IntN(api.ExprChoose)
	if deep > 3 || m.left < 0 || m.IntN(2) == 0 {
		kind = api.ExprName
	}
	if m.calm && kind >= api.ExprAnd && !m.bad() {
		kind = api.ExprAdd
	}
	known := slices.Concat(m.params, m.locals, m.loops)
	inner := func() api.Expr { return m.expr(deep + 1) }
	switch {
	case kind == api.ExprName && len(known) > 0:
		return api.Expr{Kind: kind, Name: m.of(known)}
	case kind == api.ExprIndex && len(m.arrays) > 0:
		return api.Expr{Kind: kind, Name: m.of(m.arrays), Args: []api.Expr{inner()}}
	case kind == api.ExprCall && len(m.p.Funcs) > 0:
		return m.call(inner)
	case kind <= api.ExprCall:
		return m.number()
	case kind <= api.ExprNot:
		return api.Expr{Kind: kind, Args: m.many(1, inner)}
	case kind == api.ExprChoose:
		return api.Expr{Kind: kind, Args: m.many(3, inner)}
	}
	return api.Expr{Kind: kind, Args: m.many(2, inner)}
}

func (m *maker) call(arg func() api.Expr) api.Expr {
	f := m.p.Funcs[m.IntN(len(m.p.Funcs))]
	n := len(f.Params)
	if m.bad() {
		n = max(0, n-1+2*m.IntN(2))
	}
	return api.Expr{Kind: api.ExprCall, Name: f.Name, Args: m.many(n, arg)}
}

func (m *maker) bound(deep int) api.Expr {
	if m.bad() {
		return m.expr(deep)
	}
	known := slices.Concat(m.params, m.loops)
	if m.bad() {
		known = append(known, m.locals...)
	}
	inner := func() api.Expr { return m.bound(deep + 1) }
	switch k := m.IntN(8); {
	case k < 2 && deep < 4:
		return api.Expr{Kind: []int{api.ExprAdd, api.ExprSub, api.ExprMul}[m.IntN(3)], Args: m.many(2, inner)}
	case k < 3 && deep < 4:
		return api.Expr{Kind: api.ExprNeg, Args: m.many(1, inner)}
	case k < 6 && len(known) > 0 && !m.calm:
		return api.Expr{Kind: api.ExprName, Name: m.of(known)}
	}
	return m.number()
}

// end is a loop's B, which is now and then a parameter.
func (m *maker) end() api.Expr {
	if len(m.params) > 0 && m.IntN(3) == 0 {
		return api.Expr{Kind: api.ExprName, Name: m.of(m.params)}
	}
	return m.bound(0)
}

// list is a list of statements; what is declared in it ends with it.
func (m *maker) list(deep int) []api.Stmt {
	locals, arrays := len(m.locals), len(m.arrays)
	var list []api.Stmt
	for n := m.IntN(5); n > 0 && m.left > 0; n-- {
		list = append(list, m.stmt(deep))
	}
	m.locals, m.arrays = m.locals[:locals], m.arrays[:arrays]
	return list
}

// free is a name that is not known, of a few, so that one name is of several kinds within one function.
func (m *maker) free() string {
	known := slices.Concat(m.params, m.locals, m.loops, m.arrays)
	for _, i := range m.Perm(20) {
		if s := string(rune('a' + i)); !slices.Contains(known, s) && (m.IntN(3) > 0 || i < 6) {
			return s
		}
	}
	return "zz"
}

func (m *maker) stmt(deep int) api.Stmt {
	m.left--
	kind := api.StmtLet + m.IntN(api.StmtCall)
	if m.calm && !m.bad() && (kind == api.StmtIf || kind == api.StmtSwitch || kind == api.StmtBreak || kind == api.StmtReturn && len(m.loops) > 0) {
		kind = api.StmtFor
	}
	written := slices.Concat(m.params, m.locals)
	missing := kind == api.StmtBreak && len(m.loops) == 0 || kind == api.StmtAssign && len(written) == 0 || kind == api.StmtStore && len(m.arrays) == 0 || kind == api.StmtCall && len(m.p.Funcs) == 0
	if missing && m.IntN(50) > 0 || deep > 5 {
		kind = api.StmtLet + m.IntN(2)
	}
	any := func() api.Expr { return m.expr(0) }
	switch kind {
	case api.StmtLet:
		s := api.Stmt{Kind: kind, A: m.expr(0), Name: m.free()}
		m.locals = append(m.locals, s.Name)
		return s
	case api.StmtArray:
		s := api.Stmt{Kind: kind, Name: m.free(), N: 1 + m.Int64N(api.MaxArray)}
		if m.bad() {
			s.N = []int64{0, 1, 1024, 1025, 10000}[m.IntN(5)]
		}
		m.arrays = append(m.arrays, s.Name)
		return s
	case api.StmtAssign:
		return api.Stmt{Kind: kind, Name: m.of(append(written, "zz")[:max(1, len(written))]), A: any()}
	case api.StmtStore:
		return api.Stmt{Kind: kind, Name: m.of(append(m.arrays, "zz")[:max(1, len(m.arrays))]), A: any(), B: any()}
	case api.StmtCall:
		if len(m.p.Funcs) > 0 {
			return api.Stmt{Kind: kind, A: m.call(any)}
		}
	case api.StmtIf, api.StmtSwitch:
		return m.choice(kind, deep)
	case api.StmtFor:
		s := api.Stmt{Kind: kind, Name: m.free(), A: m.bound(0), B: m.end()}
		m.loops = append(m.loops, s.Name)
		s.Body = m.list(deep + 1)
		m.loops = m.loops[:len(m.loops)-1]
		return s
	case api.StmtReturn:
		return api.Stmt{Kind: kind, A: any()}
	}
	return api.Stmt{Kind: api.StmtBreak}
}

func (m *maker) choice(kind, deep int) api.Stmt {
	s := api.Stmt{Kind: kind, A: m.expr(0)}
	if kind == api.StmtIf {
		s.Body = m.list(deep + 1)
		s.Else = m.list(deep + 1)
		return s
	}
	for i := range m.IntN(4) {
		n := int64(i) - 1
		if m.IntN(12) == 0 {
			n = m.Int64N(3)
		}
		s.Cases = append(s.Cases, api.Case{N: n, Body: m.list(deep + 1)})
	}
	s.Else = m.list(deep + 1)
	return s
}

func (m *maker) program() api.Program {
	p := api.Program{}
	m.p = &p
	m.wrong = []int{8, 60, 400, 5000}[m.IntN(4)]
	for i := range 1 + m.IntN(5) {
		f := api.Fn{Name: "f" + string(rune('0'+i))}
		m.params, m.locals, m.arrays, m.loops = nil, nil, nil, nil
		m.calm = m.IntN(3) > 0
		for range m.IntN(4) {
			q := api.Param{Name: m.free(), Lo: m.Int64N(5) - 2}
			q.Hi = q.Lo + m.Int64N(3)
			if m.bad() {
				q.Hi = q.Lo - 1
			}
			m.params = append(m.params, q.Name)
			f.Params = append(f.Params, q)
		}
		m.left = m.IntN(80)
		f.Body = m.list(1)
		p.Funcs = append(p.Funcs, f)
	}
	return p
}

// P5.1 and P5.2: programs at random are answered as the model has it.
func TestAgainstModel(t *testing.T) {
	m := &maker{Rand: rand.New(rand.NewPCG(5, 1))}
	seen := map[api.Errno]int{}
	kinds := map[[2]bool]int{}
	for range 8000 {
		p := m.program()
		text, f := tree.Print(p)
		if f.E != api.OK {
			t.Fatalf("%v", f)
		}
		want := modelFault(t, p)
		if got := ranges.Check(p); got != want {
			t.Fatalf("%v, not %v, of\n%.2000s", got, want, text)
		}
		seen[want.E]++
		for fn := range p.Funcs {
			var answer [2]bool
			for i, params := range []bool{false, true} {
				answer[i] = want.E == api.OK
				for _, c := range modelReach(p, fn) {
					answer[i] = answer[i] && modelStraight(t, p.Funcs[c], params)
				}
				if got := ranges.Straight(p, fn, params); got != answer[i] {
					t.Fatalf("%d is straight (%v): %v, of\n%.2000s", fn, params, got, text)
				}
			}
			if want.E == api.OK && len(p.Funcs[fn].Body) > 1 {
				kinds[answer]++
			}
		}
	}
	for _, e := range []api.Errno{api.OK, api.ErrEmpty, api.ErrArg, api.ErrTwice, api.ErrBound, api.ErrCount, api.ErrBreak} {
		if seen[e] < 60 {
			t.Errorf("error %d comes %d times only", e, seen[e])
		}
	}
	for _, k := range [][2]bool{{false, false}, {false, true}, {true, true}} {
		if kinds[k] < 500 {
			t.Errorf("%v comes %d times only", k, kinds[k])
		}
	}
}
