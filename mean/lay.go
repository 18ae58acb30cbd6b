package mean

import "soffit/api"

// fn is a function whose names have become places. It has room for one call: a function is known only behind itself, so no second call of it begins ahead of the first one's end.
type fn struct {
	params []api.Param
	body   []stmt
	vars   []int64 // the parameters first
	words  []word
	size   int   // how many words there are: room for them is made when it is called first
	born   int64 // the round that its latest call began as
}

// word is a word of an array, and the call that wrote it. What an earlier call wrote is 0 in a later one, so nothing need be wiped when a call begins.
type word struct{ value, born int64 }

// place is where a variable's number is, or an array's first word, and how many words that has.
type place struct {
	at   int
	size int64
}

type stmt struct {
	kind        int
	place       place
	a, b        expr
	body, other []stmt
	cases       []branch
}

type branch struct {
	n    int64
	body []stmt
}

type expr struct {
	kind  int
	n     int64
	place place
	fn    int // the number of the function called
	args  []expr
}

// lay lays out the functions of a program that may be.
func lay(p api.Program) []fn {
	numbers := map[string]int{}
	funcs := make([]fn, len(p.Funcs))
	for i, f := range p.Funcs {
		l := placer{numbers: numbers, places: map[string]place{}}
		for _, q := range f.Params {
			l.variable(q.Name)
		}
		body := l.list(f.Body)
		funcs[i] = fn{params: f.Params, body: body, vars: make([]int64, l.vars), size: l.words}
		numbers[f.Name] = i
	}
	return funcs
}

// placer gives each variable and each array of a function a place of its own. Of one name the latest one ahead is always meant, since no name is declared while it is known.
type placer struct {
	numbers     map[string]int
	places      map[string]place
	vars, words int
}

func (l *placer) variable(name string) place {
	at := place{at: l.vars}
	l.vars++
	l.places[name] = at
	return at
}

func (l *placer) array(name string, size int64) place {
	at := place{at: l.words, size: size}
	l.words += int(size)
	l.places[name] = at
	return at
}

func (l *placer) list(list []api.Stmt) []stmt {
	out := make([]stmt, len(list))
	for i, s := range list {
		out[i] = l.stmt(s)
	}
	return out
}

// stmt lays out a statement: what its own expressions name stood ahead of it, what its bodies name may be declared by it.
func (l *placer) stmt(s api.Stmt) stmt {
	out := stmt{kind: s.Kind, a: l.expr(s.A), b: l.expr(s.B)}
	switch s.Kind {
	case api.StmtLet, api.StmtFor:
		out.place = l.variable(s.Name)
	case api.StmtArray:
		out.place = l.array(s.Name, s.N)
	case api.StmtAssign, api.StmtStore:
		out.place = l.places[s.Name]
	}
	out.body = l.list(s.Body)
	for _, c := range s.Cases {
		out.cases = append(out.cases, branch{n: c.N, body: l.list(c.Body)})
	}
	out.other = l.list(s.Else)
	return out
}

func (l *placer) expr(x api.Expr) expr {
	out := expr{kind: x.Kind, n: x.N}
	switch x.Kind {
	case api.ExprName, api.ExprIndex:
		out.place = l.places[x.Name]
	case api.ExprCall:
		out.fn = l.numbers[x.Name]
	}
	for _, y := range x.Args {
		out.args = append(out.args, l.expr(y))
	}
	return out
}
