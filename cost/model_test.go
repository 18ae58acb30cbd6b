package cost_test

import (
	"math/big"
	"slices"
	"testing"

	"soffit/api"
	"soffit/calls"
	"soffit/code"
	"soffit/cost"
	"soffit/loops"
	"soffit/trips"
)

// The model follows the recurrence as it is written, in numbers without end, over loops and edges ahead by the meanings of DOC.md's words.

// graph is where each instruction leads.
type graph [][]int

// graphOf is a function's, as P12.1 says it.
func graphOf(f api.Func) graph {
	g := make(graph, len(f.Code))
	for at, x := range f.Code {
		targets := []int{at + 1}
		switch x.Op {
		case api.OpRet:
			targets = nil
		case api.OpJump, api.OpStep:
			targets = []int{int(x.N)}
		case api.OpIf, api.OpUnless, api.OpCount:
			targets = append(targets, int(x.N))
		}
		g[at] = targets
	}
	return g
}

// from is what ways from an instruction lead to that do not have another one; -1: all ways. The instruction itself is the shortest way.
func (g graph) from(first, without int) []bool {
	found := make([]bool, len(g))
	if first == without {
		return found
	}
	found[first] = true
	for waiting := []int{first}; len(waiting) > 0; waiting = waiting[1:] {
		for _, v := range g[waiting[0]] {
			if v != without && !found[v] {
				found[v] = true
				waiting = append(waiting, v)
			}
		}
	}
	return found
}

// reckoning is what the recurrence knows of one function.
type reckoning struct {
	f       api.Func
	g       graph
	reached []bool
	// missed are by instruction those that can be reached without it.
	missed  [][]bool
	regions []region
	weights []*big.Int
	// spins stand by the head of the loop.
	spins map[int]*big.Int
	trips []uint64
}

// region is a loop, or the whole function.
type region struct {
	entered int
	members []bool
	whole   bool
}

func (r region) size() int {
	n := 0
	for _, in := range r.members {
		if in {
			n++
		}
	}
	return n
}

// back tells whether an edge goes back: where it leads to can't be missed on the way to its beginning.
func (k *reckoning) back(u, v int) bool {
	return k.reached[u] && slices.Contains(k.g[u], v) && !k.missed[v][u]
}

// ahead tells whether an edge goes ahead.
func (k *reckoning) ahead(u, v int) bool {
	return k.reached[u] && slices.Contains(k.g[u], v) && k.missed[v][u]
}

// backs are the instructions from which back edges go to one.
func (k *reckoning) backs(h int) []int {
	var list []int
	for u := range k.g {
		if k.back(u, h) {
			list = append(list, u)
		}
	}
	return list
}

// loop is the loop of a head, to which something leads back.
func (k *reckoning) loop(h int, backs []int) region {
	r := region{entered: h, members: make([]bool, len(k.g))}
	for x := range k.g {
		from := k.g.from(x, h)
		for _, u := range backs {
			r.members[x] = r.members[x] || k.reached[x] && (x == h || from[u])
		}
	}
	return r
}

// reckon begins a function whose loops count, and of which the ceilings stand of those that it calls.
func reckon(m api.Module, fn int, all []api.Ceiling) *reckoning {
	k := &reckoning{f: m.Funcs[fn], g: graphOf(m.Funcs[fn]), spins: map[int]*big.Int{}}
	k.reached = k.g.from(0, -1)
	for v := range k.g {
		k.missed = append(k.missed, k.g.from(0, v))
	}
	for h := range k.g {
		if backs := k.backs(h); len(backs) > 0 {
			k.regions = append(k.regions, k.loop(h, backs))
		}
	}
	k.trips, _ = trips.Of(m, fn)
	for _, x := range k.f.Code {
		w := big.NewInt(code.Weight(x.Op))
		if x.Op == api.OpCall {
			w.Add(w, big.NewInt(all[x.N].Steps))
		}
		k.weights = append(k.weights, w)
	}
	return k
}

// arrive is arrive(r, x); what is known of r already stands in a map.
func (k *reckoning) arrive(r region, x int, known map[int]*big.Int) *big.Int {
	if n, ok := known[x]; ok {
		return n
	}
	n := new(big.Int)
	if x != r.entered {
		for u := range k.g {
			if r.members[u] && k.ahead(u, x) {
				n = larger(n, new(big.Int).Add(k.arrive(r, u, known), k.weights[u]))
			}
		}
	}
	if spin, ok := k.spins[x]; ok && (r.whole || x != r.entered) {
		n = new(big.Int).Add(n, spin)
	}
	known[x] = n
	return n
}

func larger(a, b *big.Int) *big.Int {
	if a.Cmp(b) < 0 {
		return b
	}
	return a
}

func above(n *big.Int) bool { return n.Cmp(big.NewInt(most)) > 0 }

// over is the first member of which a number is above the greatest ceiling; -1: none.
func (k *reckoning) over(r region, known map[int]*big.Int) int {
	for x, in := range r.members {
		if in && (above(k.arrive(r, x, known)) || above(k.behind(r, x, known))) {
			return x
		}
	}
	return -1
}

// behind is arrive(r, x) and x's weight together.
func (k *reckoning) behind(r region, x int, known map[int]*big.Int) *big.Int {
	return new(big.Int).Add(k.arrive(r, x, known), k.weights[x])
}

// steps is the function's Steps, or the first instruction at which they are too many.
func (k *reckoning) steps() (int64, int, bool) {
	order := slices.Clone(k.regions)
	slices.SortFunc(order, func(a, b region) int {
		if a.size() != b.size() {
			return a.size() - b.size()
		}
		return a.entered - b.entered
	})
	for _, r := range order {
		known := map[int]*big.Int{}
		if x := k.over(r, known); x >= 0 {
			return 0, x, false
		}
		iter := new(big.Int)
		for _, u := range k.backs(r.entered) {
			iter = larger(iter, k.behind(r, u, known))
		}
		at := slices.IndexFunc(k.regions, func(o region) bool { return o.entered == r.entered })
		spin := new(big.Int).Mul(iter, new(big.Int).SetUint64(k.trips[at]))
		if above(iter) || above(spin) {
			return 0, r.entered, false
		}
		k.spins[r.entered] = spin
	}
	whole := region{members: k.reached, whole: true}
	known := map[int]*big.Int{}
	if x := k.over(whole, known); x >= 0 {
		return 0, x, false
	}
	steps := new(big.Int)
	for x, in := range k.reached {
		if in && k.f.Code[x].Op == api.OpRet {
			steps = larger(steps, k.behind(whole, x, known))
		}
	}
	return steps.Int64(), 0, true
}

// called are the functions that a function calls by what can be reached, as often as it does.
func (k *reckoning) called() []int {
	var list []int
	for x, in := range k.reached {
		if in && k.f.Code[x].Op == api.OpCall {
			list = append(list, int(k.f.Code[x].N))
		}
	}
	return list
}

// modelCeilings is P18.1.
func modelCeilings(m api.Module) ([]api.Ceiling, api.Fault) {
	if fault := code.May(m); fault.E != api.OK {
		return nil, fault
	}
	for fn, f := range m.Funcs {
		if _, e, at := loops.Find(f); e != api.OK {
			return nil, api.Fault{E: e, Func: fn, At: at}
		}
	}
	order, fault := calls.Order(m)
	if fault.E != api.OK {
		return nil, fault
	}
	all := make([]api.Ceiling, len(m.Funcs))
	for _, fn := range order {
		k := reckon(m, fn, all)
		steps, at, ok := k.steps()
		if !ok {
			return nil, api.Fault{E: api.ErrCeiling, Func: fn, At: at}
		}
		one := api.Ceiling{Steps: steps, Frames: 1, Words: int64(k.f.Regs + k.f.Words)}
		for _, g := range k.called() {
			one.Frames = max(one.Frames, 1+all[g].Frames)
			one.Words = max(one.Words, int64(k.f.Regs+k.f.Words)+all[g].Words)
		}
		all[fn] = one
	}
	return all, api.Fault{}
}

// against holds a module to the recurrence, and what is told to P18.3; it tells the ceilings.
func against(t *testing.T, m api.Module) ([]api.Ceiling, api.Fault) {
	t.Helper()
	l, fault := cost.Of(m)
	if want, wrong := modelCeilings(m); fault != wrong || !slices.Equal(l, want) {
		t.Fatalf("Of(%s): %s, %v, not %s, %v", short(m), short(l), fault, short(want), wrong)
	}
	if fault.E == api.OK {
		follows(t, m, l)
	}
	return l, fault
}

// follows holds ceilings to P18.3, as far as it speaks of any functions.
func follows(t *testing.T, m api.Module, l []api.Ceiling) {
	t.Helper()
	for fn, f := range m.Funcs {
		g := graphOf(f)
		reached := g.from(0, -1)
		own := int64(f.Regs + f.Words)
		if l[fn].Steps < 1 || l[fn].Frames < 1 || l[fn].Words < own {
			t.Fatalf("%s: %v of function %d", short(m), l[fn], fn)
		}
		for at, x := range f.Code {
			if !reached[at] || x.Op != api.OpCall {
				continue
			}
			other := l[x.N]
			looped := false
			for _, v := range g[at] {
				looped = looped || g.from(v, -1)[at]
			}
			if l[fn].Frames <= other.Frames || l[fn].Words < other.Words+own || !looped && l[fn].Steps < other.Steps+5 {
				t.Fatalf("%s: %v of function %d, which calls that of %v", short(m), l[fn], fn, other)
			}
		}
	}
}
