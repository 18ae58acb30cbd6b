package tree_test

import (
	"testing"

	"soffit/api"
	"soffit/tree"
)

// P2.4: what is a part, and what is none.
func TestNodes(t *testing.T) {
	zeros := api.Expr{Args: []api.Expr{}}
	for _, c := range []struct {
		what string
		p    api.Program
		want int
	}{
		{"a statement of zeros", one(api.Stmt{}), 1},
		{"an A and a B of zeros", one(api.Stmt{A: zeros, B: zeros}), 1},
		{"an A with a kind", one(api.Stmt{A: api.Expr{Kind: -3}}), 2},
		{"an A with a number", one(api.Stmt{A: api.Expr{N: -3}}), 2},
		{"an A with a name", one(api.Stmt{A: api.Expr{Name: "fn"}}), 2},
		{"an A with an argument of zeros", one(api.Stmt{A: api.Expr{Args: []api.Expr{zeros}}}), 3},
		{"a B with arguments of zeros", one(api.Stmt{B: api.Expr{Args: make([]api.Expr, 5)}}), 7},
		{"arguments within one another", one(back(call("g", negated(3, num(1)), index("t", num(2))))), 8},
		{"bodies that don't count", one(api.Stmt{Kind: api.StmtBreak, Body: stops(1), Else: stops(2), Cases: make([]api.Case, 3)}), 7},
		{"statements in cases", one(api.Stmt{Kind: api.StmtSwitch, A: num(1), Cases: []api.Case{{Body: stops(2)}, {Body: []api.Stmt{back(num(1))}}}, Else: stops(1)}), 9},
		{"two functions", api.Program{Funcs: []api.Fn{{Body: stops(3)}, {Params: make([]api.Param, 9), Body: stops(4)}}}, 7},
		{"thresholds, functions and parameters", api.Program{Widen: make([]int64, 99), Funcs: make([]api.Fn, 99)}, 0},
	} {
		if n := tree.Nodes(c.p); n != c.want {
			t.Errorf("%s: %d, not %d", c.what, n, c.want)
		}
	}
}

// many is a program with so many parts of the kind that f makes.
func many(f func(n int) api.Stmt) func(n int) api.Program {
	return func(n int) api.Program { return one(f(n)) }
}

// P2.4: just MaxNodes parts, one more, and very many, of each nature.
func TestManyNodes(t *testing.T) {
	for what, f := range map[string]func(n int) api.Program{
		"statements": func(n int) api.Program { return one(stops(n)...) },
		"arguments":  many(func(n int) api.Stmt { return back(call("g", make([]api.Expr, n-2)...)) }),
		"cases":      many(func(n int) api.Stmt { return api.Stmt{Cases: make([]api.Case, n-1)} }),
		"a body":     many(func(n int) api.Stmt { return api.Stmt{Body: stops(n - 1)} }),
		"an else":    many(func(n int) api.Stmt { return api.Stmt{Else: stops(n - 1)} }),
		"a case":     many(func(n int) api.Stmt { return api.Stmt{Cases: []api.Case{{Body: stops(n - 2)}}} }),
		"deep A":     many(func(n int) api.Stmt { return api.Stmt{A: negated(n-2, num(1))} }),
		"deep B":     many(func(n int) api.Stmt { return api.Stmt{A: num(1), B: negated(n-3, num(1))} }),
		"last of B":  many(func(n int) api.Stmt { return api.Stmt{B: call("g", negated(n-4, num(1)), num(1))} }),
		"functions": func(n int) api.Program {
			p := api.Program{Funcs: make([]api.Fn, n)}
			for i := range p.Funcs {
				p.Funcs[i].Body = stops(1)
			}
			return p
		},
	} {
		for n := api.MaxNodes - 1; n <= api.MaxNodes+3; n++ {
			if got := tree.Nodes(f(n)); got != min(n, api.MaxNodes+1) {
				t.Errorf("%s: %d, not %d", what, got, min(n, api.MaxNodes+1))
			}
		}
		for _, n := range []int{2 * api.MaxNodes, 1 << 16} {
			if got := tree.Nodes(f(n)); got != api.MaxNodes+1 {
				t.Errorf("%d of %s: %d", n, what, got)
			}
		}
	}
}

// P2.1, P2.4 and R1: what stands at several places counts at each, and a program that grows so is given up early.
func TestManyPlaces(t *testing.T) {
	list := stops(10)
	args := []api.Expr{num(1)}
	for range 30 {
		within := make([]api.Stmt, 10)
		for i := range within {
			within[i] = api.Stmt{Kind: api.StmtIf, A: num(1), Body: list, Else: list, Cases: []api.Case{{Body: list}}}
		}
		list = within
		args = []api.Expr{call("g", args...), call("g", args...), call("g", args...)}
	}
	for _, p := range []api.Program{one(list...), one(back(call("g", args...)))} {
		if n := tree.Nodes(p); n != api.MaxNodes+1 {
			t.Errorf("%d parts", n)
		}
		fault(t, "many places", p, api.Fault{E: api.ErrMany})
	}
}
