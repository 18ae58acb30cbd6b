package trips_test

import (
	"math/big"
	"slices"
	"testing"

	"soffit/api"
	"soffit/bounds"
	"soffit/code"
	"soffit/loops"
	"soffit/trips"
)

// The model finds loops by the meanings of DOC.md's words, and goes from the least count to the greatest bound in numbers without end.

// graph is where each instruction leads.
type graph [][]int

// graphOf is a function's, as P12.1 says it.
func graphOf(f api.Func) graph {
	g := make(graph, len(f.Code))
	for at, x := range f.Code {
		targets := []int{at + 1}
		switch x.Op {
		case api.OpRet:
			targets = nil
		case api.OpJump, api.OpStep:
			targets = []int{int(x.N)}
		case api.OpIf, api.OpUnless, api.OpCount:
			targets = append(targets, int(x.N))
		}
		g[at] = targets
	}
	return g
}

// from is what ways from an instruction lead to that do not have another one; -1: all ways. The instruction itself is the shortest way.
func (g graph) from(first, without int) []bool {
	found := make([]bool, len(g))
	if first == without {
		return found
	}
	found[first] = true
	for waiting := []int{first}; len(waiting) > 0; waiting = waiting[1:] {
		for _, v := range g[waiting[0]] {
			if v != without && !found[v] {
				found[v] = true
				waiting = append(waiting, v)
			}
		}
	}
	return found
}

// loop is a loop of a graph.
type loop struct {
	head    int
	members []bool
}

// loops are a graph's: heads are those to which something leads that can't be reached without them.
func (g graph) loops() []loop {
	var l []loop
	reached := g.from(0, -1)
	for h := range g {
		missed, back := g.from(0, h), make([]bool, len(g))
		for u := range g {
			back[u] = reached[u] && !missed[u] && slices.Contains(g[u], h)
		}
		if !slices.Contains(back, true) {
			continue
		}
		members := make([]bool, len(g))
		for x := range g {
			found := g.from(x, h)
			for u := range g {
				members[x] = members[x] || reached[x] && (x == h || found[u] && back[u])
			}
		}
		l = append(l, loop{h, members})
	}
	return l
}

// incoming are all registers' spans that come into a loop, each way one.
func incoming(m api.Module, fn int, g graph, l loop) [][]api.Span {
	var all [][]api.Span
	f := m.Funcs[fn]
	if l.head == 0 {
		all = append(all, append(slices.Clone(f.Params), make([]api.Span, f.Regs-len(f.Params))...))
	}
	a, _ := bounds.Run(m, fn)
	reached := g.from(0, -1)
	for u := range g {
		if !reached[u] || l.members[u] || !slices.Contains(g[u], l.head) || len(a.In[u]) == 0 {
			continue
		}
		if out, ok := bounds.Edge(m, fn, u, l.head, a.In[u]); ok {
			all = append(all, out)
		}
	}
	return all
}

// modelTrips is P17.1.
func modelTrips(m api.Module, fn int) ([]uint64, api.Errno) {
	if fault := code.May(m); fault.E != api.OK {
		return nil, fault.E
	}
	if fn < 0 || fn >= len(m.Funcs) {
		return nil, api.ErrArg
	}
	if _, e, _ := loops.Find(m.Funcs[fn]); e != api.OK {
		return nil, e
	}
	var want []uint64
	g := graphOf(m.Funcs[fn])
	for _, l := range g.loops() {
		x := m.Funcs[fn].Code[l.head]
		most := new(big.Int)
		all := incoming(m, fn, g, l)
		// Of each two ways in the count may come by the one and the bound by the other.
		for _, one := range all {
			for _, other := range all {
				d := new(big.Int).Sub(big.NewInt(other[x.B].Hi), big.NewInt(one[x.A].Lo))
				if d.Cmp(most) > 0 {
					most = d
				}
			}
		}
		want = append(want, most.Uint64())
	}
	return want, api.OK
}

// against holds a module's functions to the words' own meanings.
func against(t *testing.T, m api.Module) {
	t.Helper()
	for fn := -1; fn <= len(m.Funcs); fn++ {
		l, e := trips.Of(m, fn)
		if want, wrong := modelTrips(m, fn); e != wrong || !slices.Equal(l, want) {
			t.Fatalf("Of(%s, %d): %s, %d, not %s, %d", short(m), fn, short(l), e, short(want), wrong)
		}
	}
}
