package bounds_test

import (
	"math/big"
	"slices"
	"testing"

	"soffit/api"
	"soffit/bounds"
	"soffit/code"
	"soffit/span"
)

// The model says P16.1's table as one row each: in what registers must lie, which of them lose 0 at their ends, and what is written then.

// between is from one whole number without end to another one.
type between struct{ lo, hi *big.Int }

func fromTo(lo, hi int64) between { return between{big.NewInt(lo), big.NewInt(hi)} }

// passage is a row for one instruction and one way.
type passage struct {
	shut    bool
	within  map[int]between
	nonzero []int
	put     map[int]api.Span
}

// leads tells whether one instruction leads to another one, as P12.1 says it.
func leads(f api.Func, from, to int) bool {
	if from < 0 || from >= len(f.Code) || to < 0 || to >= len(f.Code) {
		return false
	}
	x := f.Code[from]
	switch x.Op {
	case api.OpRet:
		return false
	case api.OpJump, api.OpStep:
		return x.N == int64(to)
	case api.OpIf, api.OpUnless, api.OpCount:
		return to-from == 1 || x.N == int64(to)
	}
	return to-from == 1
}

func passageOf(m api.Module, f api.Func, from, to int, in []api.Span) passage {
	p := passage{within: map[int]between{}, put: map[int]api.Span{}}
	x := f.Code[from]
	do := func(op, b, c int) {
		told, ok := span.Do(op, in[b], in[c])
		p.shut = p.shut || !ok
		p.put[x.A] = told
	}
	named, only := x.N == int64(to), x.N == int64(from)+1
	switch x.Op {
	case api.OpSet:
		p.put[x.A] = n(x.N)
	case api.OpMove:
		p.put[x.A] = in[x.B]
	case api.OpAdd, api.OpSub, api.OpMul, api.OpLess, api.OpEqual:
		do(x.Op, x.B, x.C)
	case api.OpDiv, api.OpRem:
		do(x.Op, x.B, x.C)
		p.nonzero = append(p.nonzero, x.C)
	case api.OpNot:
		do(x.Op, x.B, x.B)
	case api.OpStep:
		p.put[x.A], _ = span.Do(api.OpAdd, in[x.A], n(1))
	case api.OpLoad, api.OpStore:
		first := new(big.Int).Neg(big.NewInt(x.N))
		p.within[x.B] = between{first, new(big.Int).Add(first, big.NewInt(int64(f.Words-1)))}
		if x.Op == api.OpLoad {
			p.put[x.A] = all
		}
	case api.OpCheck:
		p.within[x.A] = fromTo(0, x.N-1)
	case api.OpCall:
		for i, r := range m.Funcs[x.N].Params {
			p.within[x.B+i] = fromTo(r.Lo, r.Hi)
		}
		p.put[x.A] = all
	case api.OpIf, api.OpUnless:
		switch {
		case only:
		case named == (x.Op == api.OpUnless):
			p.within[x.A] = fromTo(0, 0)
		default:
			p.nonzero = append(p.nonzero, x.A)
		}
	case api.OpCount:
		switch {
		case only:
		case x.A == x.B:
			p.shut = !named
		case named:
			p.within[x.A] = fromTo(in[x.B].Lo, most)
		default:
			p.within[x.A] = between{big.NewInt(least), new(big.Int).Sub(big.NewInt(in[x.B].Hi), big.NewInt(1))}
		}
	}
	return p
}

// modelEdge is P16.1 of a module that may be.
func modelEdge(m api.Module, fn, from, to int, in []api.Span) ([]api.Span, bool) {
	if fn < 0 || fn >= len(m.Funcs) || !leads(m.Funcs[fn], from, to) || len(in) != m.Funcs[fn].Regs {
		return nil, false
	}
	for _, a := range in {
		if a.Lo > a.Hi {
			return nil, false
		}
	}
	p := passageOf(m, m.Funcs[fn], from, to, in)
	out := slices.Clone(in)
	for r, b := range p.within {
		lo, hi := big.NewInt(in[r].Lo), big.NewInt(in[r].Hi)
		if lo.Cmp(b.lo) < 0 {
			lo = b.lo
		}
		if hi.Cmp(b.hi) > 0 {
			hi = b.hi
		}
		if lo.Cmp(hi) > 0 {
			return nil, false
		}
		out[r] = s(lo.Int64(), hi.Int64())
	}
	for _, r := range p.nonzero {
		if in[r] == n(0) {
			return nil, false
		}
		if in[r].Lo == 0 {
			out[r].Lo++
		}
		if in[r].Hi == 0 {
			out[r].Hi--
		}
	}
	for r, a := range p.put {
		out[r] = a
	}
	return out, !p.shut
}

// history is all that came to an instruction and changed what stood there, one behind the other.
type history [][]api.Span

// replayed is what stands behind a history, and how often each register was changed by it.
func (h history) replayed(thresholds []int64) ([]api.Span, []int) {
	if len(h) == 0 {
		return nil, nil
	}
	stood, changes := slices.Clone(h[0]), make([]int, len(h[0]))
	for i, came := range h[1:] {
		for r, old := range stood {
			stood[r] = s(min(old.Lo, came[r].Lo), max(old.Hi, came[r].Hi))
			if stood[r] != old {
				changes[r]++
			}
			if i >= 4 {
				stood[r] = span.Widen(old, came[r], thresholds)
			}
		}
	}
	return stood, changes
}

// within tells whether all spans lie in others.
func within(a, b []api.Span) bool {
	for r := range a {
		if a[r].Lo < b[r].Lo || a[r].Hi > b[r].Hi {
			return false
		}
	}
	return len(a) == len(b)
}

// modelRun is P16.2 of a function of a module that may be: what comes is kept, and played anew each time.
func modelRun(m api.Module, fn int) api.Analysis {
	f := m.Funcs[fn]
	beginning := make([]api.Span, f.Regs)
	copy(beginning, f.Params)
	came := make([]history, len(f.Code))
	came[0] = history{beginning}
	marked := []int{0}
	for at := -1; len(marked) > 0; {
		// The next one by number, or else the least one of the next round.
		i := max(0, slices.IndexFunc(marked, func(n int) bool { return n > at }))
		at = marked[i]
		marked = slices.Delete(marked, i, i+1)
		stood, _ := came[at].replayed(m.Thresholds)
		for to := range f.Code {
			out, ok := modelEdge(m, fn, at, to, stood)
			if there, _ := came[to].replayed(m.Thresholds); !ok || there != nil && within(out, there) {
				continue
			}
			came[to] = append(came[to], out)
			if !slices.Contains(marked, to) {
				marked = append(marked, to)
				slices.Sort(marked)
			}
		}
	}
	var a api.Analysis
	for _, h := range came {
		stood, changes := h.replayed(m.Thresholds)
		if changes == nil {
			changes = make([]int, f.Regs)
		}
		a.In, a.Changes = append(a.In, stood), append(a.Changes, changes)
	}
	return a
}

// same tells whether two analyses are the same.
func same(a, b api.Analysis) bool {
	return slices.EqualFunc(a.In, b.In, slices.Equal[[]api.Span]) && slices.EqualFunc(a.Changes, b.Changes, slices.Equal[[]int])
}

// against holds a module's functions to the words' own meanings; the module is one that may be.
func against(t *testing.T, m api.Module) {
	t.Helper()
	if fault := code.May(m); fault.E != api.OK {
		t.Fatalf("the test's own module %s: %v", short(m), fault)
	}
	for fn := range m.Funcs {
		a, e := bounds.Run(m, fn)
		if want := modelRun(m, fn); e != api.OK || !same(a, want) {
			t.Fatalf("Run(%s, %d): %d, %s, not %s", short(m), fn, e, short(a), short(want))
		}
	}
}

// againstEdge holds one edge to the words' own meanings.
func againstEdge(t *testing.T, m api.Module, fn, from, to int, in []api.Span) bool {
	t.Helper()
	out, ok := bounds.Edge(m, fn, from, to, in)
	want, gone := modelEdge(m, fn, from, to, in)
	if !gone {
		want = nil
	}
	if ok != gone || !slices.Equal(out, want) {
		t.Fatalf("Edge(%s, %d, %d, %d, %v): %v, %v, not %v, %v", short(m), fn, from, to, in, out, ok, want, gone)
	}
	return ok
}
