package tree_test

import (
	"encoding/json"
	"fmt"
	"math/rand/v2"
	"reflect"
	"regexp"
	"slices"
	"strings"
	"testing"

	"soffit/api"
	"soffit/tree"
)

// The chapter's tables once more, as texts, and its promises gone about in another way, so that a slip in the one shows in the other.

type row struct {
	fields string
	args   int
	text   string
	rank   int
}

var stmtRows = map[int]row{
	api.StmtLet: {fields: "Name A", text: "let NAME = A;"}, api.StmtArray: {fields: "Name N", text: "let NAME[N];"},
	api.StmtAssign: {fields: "Name A", text: "NAME = A;"}, api.StmtStore: {fields: "Name A B", text: "NAME[A] = B;"},
	api.StmtIf: {fields: "A Body Else", text: "if A {\nBODY\n}"}, api.StmtSwitch: {fields: "A Cases Else", text: "switch A {\nCASES\n}"},
	api.StmtFor: {fields: "Name A B Body", text: "for NAME in A..B {\nBODY\n}"}, api.StmtBreak: {text: "break;"},
	api.StmtReturn: {fields: "A", text: "return A;"}, api.StmtCall: {fields: "A", text: "A;"},
}

var exprRows = makeExprRows()

func makeExprRows() map[int]row {
	all := map[int]row{
		api.ExprNumber: {"N", 0, "N", 9}, api.ExprName: {"Name", 0, "NAME", 9}, api.ExprIndex: {"Name Args", 1, "NAME[X]", 9}, api.ExprCall: {"Name Args", -1, "NAME(ARGS)", 9},
		api.ExprNeg: {"Args", 1, "-X", 8}, api.ExprNot: {"Args", 1, "!X", 8}, api.ExprChoose: {"Args", 3, "X ? Y : Z", 1},
	}
	for rank, signs := range map[int]string{7: "* / %", 6: "+ -", 5: "< <= > >=", 4: "== !=", 3: "&&", 2: "||"} {
		for _, sign := range strings.Fields(signs) {
			all[signKinds[sign][1]] = row{"Args", 2, "X " + sign + " Y", rank}
		}
	}
	return all
}

var modelName = regexp.MustCompile(`^[a-z][a-z0-9]{0,15}$`)

func isName(s string) bool {
	return modelName.MatchString(s) && !slices.Contains(strings.Fields("widen fn let for in if else switch case break return"), s)
}

func empty(v reflect.Value) bool {
	switch v.Kind() {
	case reflect.Slice:
		return v.Len() == 0
	case reflect.Struct:
		for i := range v.NumField() {
			if !empty(v.Field(i)) {
				return false
			}
		}
		return true
	}
	return v.IsZero()
}

// clean tells whether all fields beside Kind that are not listed are zero.
func clean(part any, fields string) bool {
	v := reflect.ValueOf(part)
	for i := range v.NumField() {
		if f := v.Type().Field(i).Name; f != "Kind" && !slices.Contains(strings.Fields(fields), f) && !empty(v.Field(i)) {
			return false
		}
	}
	return true
}

// modelNodes counts parts wherever they stand.
func modelNodes(v reflect.Value, inStmt bool) int {
	n := 0
	switch v.Kind() {
	case reflect.Slice:
		for i := range v.Len() {
			n += modelNodes(v.Index(i), false)
		}
	case reflect.Struct:
		switch v.Interface().(type) {
		case api.Stmt, api.Case:
			n++
		case api.Expr:
			if inStmt && empty(v) {
				return 0
			}
			n++
		}
		for i := range v.NumField() {
			n += modelNodes(v.Field(i), v.Type() == reflect.TypeFor[api.Stmt]())
		}
	}
	return n
}

// list has all faults of a program in the order of P2.1.
type list struct {
	faults   []api.Fault
	fn, stmt int
}

func (l *list) add(wrong bool, e api.Errno) {
	if wrong {
		l.faults = append(l.faults, api.Fault{E: e, Func: l.fn, At: l.stmt})
	}
}

func modelCheck(p api.Program) api.Fault {
	var l list
	l.add(len(p.Widen) > 16, api.ErrMany)
	l.add(slices.Contains(p.Widen, least), api.ErrArg)
	l.add(!slices.IsSorted(p.Widen) || len(slices.Compact(slices.Clone(p.Widen))) < len(p.Widen), api.ErrOrder)
	l.add(len(p.Funcs) > 32, api.ErrMany)
	l.add(modelNodes(reflect.ValueOf(p), false) > 4096, api.ErrMany)
	for i, f := range p.Funcs {
		l.fn, l.stmt = i, 0
		l.add(!isName(f.Name), api.ErrName)
		l.add(len(f.Params) > 8, api.ErrMany)
		for _, q := range f.Params {
			l.add(!isName(q.Name), api.ErrName)
			l.add(q.Lo == least || q.Hi == least, api.ErrArg)
		}
		l.stmts(f.Body, 1)
	}
	if len(l.faults) == 0 {
		return api.Fault{}
	}
	return l.faults[0]
}

func (l *list) stmts(body []api.Stmt, level int) {
	for _, s := range body {
		l.stmt++
		r, known := stmtRows[s.Kind]
		counts := func(field string) bool { return slices.Contains(strings.Fields(r.fields), field) }
		l.add(level > 32, api.ErrDeep)
		l.add(!known || !clean(s, r.fields), api.ErrForm)
		l.add(counts("Name") && !isName(s.Name), api.ErrName)
		l.add(counts("N") && s.N < 0, api.ErrArg)
		l.add(slices.ContainsFunc(s.Cases, func(c api.Case) bool { return c.N == least }), api.ErrArg)
		l.add(s.Kind == api.StmtCall && s.A.Kind != api.ExprCall, api.ErrForm)
		if counts("A") {
			l.expr(s.A, level+1)
		}
		if counts("B") {
			l.expr(s.B, level+1)
		}
		l.stmts(s.Body, level+1)
		for _, c := range s.Cases {
			l.stmts(c.Body, level+1)
		}
		l.stmts(s.Else, level+1)
	}
}

func (l *list) expr(x api.Expr, level int) {
	r, known := exprRows[x.Kind]
	l.add(level > 32, api.ErrDeep)
	l.add(!known || !clean(x, r.fields) || r.args >= 0 && len(x.Args) != r.args, api.ErrForm)
	l.add(strings.HasPrefix(r.fields, "Name") && !isName(x.Name), api.ErrName)
	l.add(r.fields == "N" && x.N < 0, api.ErrArg)
	for _, y := range x.Args {
		l.expr(y, level+1)
	}
}

// modelText fills in the tables' texts.
func modelText(p api.Program) string {
	text := ""
	if len(p.Widen) > 0 {
		text = "widen " + strings.Trim(strings.ReplaceAll(fmt.Sprint(p.Widen), " ", ", "), "[]") + ";\n"
	}
	for _, f := range p.Funcs {
		params := ""
		for _, q := range f.Params {
			params += fmt.Sprintf(", %s in %d..%d", q.Name, q.Lo, q.Hi)
		}
		text += fmt.Sprintf("fn %s(%s) {\n%s}\n", f.Name, strings.TrimPrefix(params, ", "), modelBody(f.Body))
	}
	return text
}

// modelBody is a body's lines, each with two blanks more than within.
func modelBody(body []api.Stmt) string {
	text := ""
	for _, s := range body {
		line := strings.NewReplacer("NAME", s.Name, "N", fmt.Sprint(s.N), "A", modelExpr(s.A), "BODY", "BODY", "B", modelExpr(s.B), "CASES", "CASES").Replace(stmtRows[s.Kind].text)
		head, rest, _ := strings.Cut(line, "\n")
		text += head + "\n"
		switch {
		case rest == "CASES\n}":
			text += modelCases(s) + "}\n"
		case rest != "" && len(s.Else) > 0:
			text += modelBody(s.Body) + "} else {\n" + modelBody(s.Else) + "}\n"
		case rest != "":
			text += modelBody(s.Body) + "}\n"
		}
	}
	return indent(text)
}

func modelCases(s api.Stmt) string {
	text := ""
	for _, c := range s.Cases {
		text += fmt.Sprintf("case %d {\n%s}\n", c.N, modelBody(c.Body))
	}
	if len(s.Else) > 0 {
		text += "else {\n" + modelBody(s.Else) + "}\n"
	}
	return indent(text)
}

var lineStart = regexp.MustCompile(`(?m)^(.)`)

func indent(text string) string { return lineStart.ReplaceAllString(text, "  $1") }

func modelExpr(x api.Expr) string {
	r := exprRows[x.Kind]
	var args []string
	for i, y := range x.Args {
		s, rank := modelExpr(y), exprRows[y.Kind].rank
		low := false
		switch {
		case r.rank == 9 || r.rank == 1 && i > 0:
		case r.rank == 1:
			low = rank == 1
		case i == 0:
			low = rank < r.rank
		default:
			low = rank <= r.rank
		}
		if low {
			s = "(" + s + ")"
		}
		args = append(args, s)
	}
	three := append(slices.Clone(args), "", "", "")
	return strings.NewReplacer("NAME", x.Name, "N", fmt.Sprint(x.N), "ARGS", strings.Join(args, ", "), "X", three[0], "Y", three[1], "Z", three[2]).Replace(r.text)
}

// modelSame goes by what encoding/json writes of both.
func modelSame(p, q api.Program) bool {
	write := func(p api.Program) string {
		b, _ := json.Marshal(p)
		return strings.ReplaceAll(string(b), "null", "[]")
	}
	return write(p) == write(q)
}

// maker makes programs at random, always the same ones.
type maker struct{ *rand.Rand }

func (m maker) name() string {
	return []string{"a", "b", "x1", "inn", "f", fullName}[m.IntN(6)]
}

func (m maker) program() api.Program {
	var p api.Program
	for n := int64(-m.IntN(9)); len(p.Widen) < 16 && m.IntN(4) > 0; n += 1 + m.Int64N(9) {
		p.Widen = append(p.Widen, n)
	}
	for range 1 + m.IntN(3) {
		f := api.Fn{Name: m.name(), Body: m.body(1)}
		for range m.IntN(9) {
			f.Params = append(f.Params, api.Param{Name: m.name(), Lo: m.Int64() - 99, Hi: -m.Int64()})
		}
		p.Funcs = append(p.Funcs, f)
	}
	return p
}

func (m maker) body(level int) []api.Stmt {
	var body []api.Stmt
	for range m.IntN(4) {
		body = append(body, m.stmt(level))
	}
	return body
}

func (m maker) stmt(level int) api.Stmt {
	kind := api.StmtLet + m.IntN(10)
	if level > 5 {
		kind = []int{api.StmtLet, api.StmtArray, api.StmtAssign, api.StmtStore, api.StmtBreak, api.StmtReturn, api.StmtCall}[m.IntN(7)]
	}
	s := api.Stmt{Kind: kind}
	for _, field := range strings.Fields(stmtRows[kind].fields) {
		switch field {
		case "Name":
			s.Name = m.name()
		case "N":
			s.N = m.Int64N(2000)
		case "A":
			s.A = m.expr(level + 1)
		case "B":
			s.B = m.expr(level + 1)
		case "Body":
			s.Body = m.body(level + 1)
		case "Else":
			s.Else = m.body(level + 1)
		case "Cases":
			for range m.IntN(3) {
				s.Cases = append(s.Cases, api.Case{N: m.Int64() - m.Int64(), Body: m.body(level + 1)})
			}
		}
	}
	if kind == api.StmtCall {
		s.A = api.Expr{Kind: api.ExprCall, Name: m.name(), Args: []api.Expr{m.expr(level + 2)}}
	}
	return s
}

func (m maker) expr(level int) api.Expr {
	kind := api.ExprNumber + m.IntN(20)
	if level > 6 || m.IntN(3) == 0 {
		kind = api.ExprNumber + m.IntN(2)
	}
	x, r := api.Expr{Kind: kind}, exprRows[kind]
	if r.fields == "N" {
		x.N = m.Int64() >> m.IntN(63)
	}
	if strings.HasPrefix(r.fields, "Name") {
		x.Name = m.name()
	}
	args := r.args
	if args < 0 {
		args = m.IntN(4)
	}
	for range args {
		x.Args = append(x.Args, m.expr(level+1))
	}
	return x
}

// leaves are all numbers, texts and lists of a program, to be changed.
func leaves(v reflect.Value) []reflect.Value {
	var all []reflect.Value
	switch v.Kind() {
	case reflect.Struct:
		for i := range v.NumField() {
			all = append(all, leaves(v.Field(i))...)
		}
	case reflect.Slice:
		all = append(all, v)
		for i := range v.Len() {
			all = append(all, leaves(v.Index(i))...)
		}
	default:
		all = append(all, v)
	}
	return all
}

// spoil changes one thing somewhere.
func (m maker) spoil(p *api.Program) {
	all := leaves(reflect.ValueOf(p).Elem())
	v := all[m.IntN(len(all))]
	switch v.Kind() {
	case reflect.Int, reflect.Int64:
		v.SetInt([]int64{least, least + 1, -1, 0, 1, 4, 10, 20, 21, most}[m.IntN(10)])
	case reflect.String:
		v.SetString(append([]string{"a", "x"}, noNames...)[m.IntN(2+len(noNames))])
	case reflect.Slice:
		switch n := v.Len(); m.IntN(4) {
		case 0:
			v.Set(reflect.MakeSlice(v.Type(), 0, 0))
		case 1:
			v.Set(reflect.AppendSlice(v, reflect.MakeSlice(v.Type(), 1+m.IntN(9), 9)))
		case 2:
			if n > 0 {
				v.Set(reflect.Append(v, v.Index(m.IntN(n))))
			}
		case 3:
			v.Set(v.Slice(0, n-min(n, 1)))
		}
	}
}

// held holds all four calls to the models.
func held(t *testing.T, p, q api.Program) {
	t.Helper()
	want := modelCheck(p)
	if f := tree.Check(p); f != want {
		t.Fatalf("Check: %v, not %v: %+v", f, want, p)
	}
	text := ""
	if want.E == api.OK {
		if text = modelText(p); len(text) > api.MaxSource {
			text, want = "", api.Fault{E: api.ErrBytes}
		}
	}
	if s, f := tree.Print(p); s != text || f != want {
		t.Fatalf("Print: %v, not %v, and\n%s, not\n%s", f, want, s, text)
	}
	if n, want := tree.Nodes(p), min(modelNodes(reflect.ValueOf(p), false), 4097); n != want {
		t.Fatalf("Nodes: %d, not %d: %+v", n, want, p)
	}
	if same, want := tree.Same(p, q), modelSame(p, q); same != want {
		t.Fatalf("Same: %v: %+v, %+v", same, p, q)
	}
}

// P2.1 to P2.4 against the models, on programs at random, and on what becomes of them when a few things are changed.
func TestAgainstModel(t *testing.T) {
	seen := map[api.Errno]int{}
	for seed := range uint64(500) {
		p := maker{rand.New(rand.NewPCG(seed, 2))}.program()
		held(t, p, p)
		for i := range uint64(6) {
			m := maker{rand.New(rand.NewPCG(seed, 2))}
			q := m.program()
			m.Rand = rand.New(rand.NewPCG(seed, 3+i))
			for range 1 + i/2 {
				m.spoil(&q)
			}
			held(t, q, p)
			seen[tree.Check(q).E]++
		}
	}
	for _, e := range []api.Errno{api.OK, api.ErrForm, api.ErrName, api.ErrArg, api.ErrOrder, api.ErrMany} {
		if seen[e] < 5 {
			t.Errorf("%d programs with %d only", seen[e], e)
		}
	}
}
