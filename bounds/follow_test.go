package bounds_test

import (
	"slices"
	"testing"

	"soffit/api"
	"soffit/bounds"
)

// follows holds a function's analysis to P16.3, but for runs: how often a register is changed, the beginning, and each way's end.
func follows(t *testing.T, m api.Module, fn int) api.Analysis {
	t.Helper()
	f := m.Funcs[fn]
	a := done(t, "follows", m, fn)
	for at, changes := range a.Changes {
		if len(changes) != f.Regs || slices.Max(changes) > api.WidenAfter+len(m.Thresholds)+2 || slices.Min(changes) < 0 {
			t.Fatalf("Run(%s, %d): changed at %d %v", short(m), fn, at, changes)
		}
		if len(a.In[at]) == 0 && slices.Max(changes) > 0 {
			t.Fatalf("Run(%s, %d): nothing is changed at %d %v", short(m), fn, at, changes)
		}
	}
	beginning := make([]api.Span, f.Regs)
	copy(beginning, f.Params)
	if !within(beginning, a.In[0]) {
		t.Fatalf("Run(%s, %d): %v at 0 hasn't the beginning", short(m), fn, a.In[0])
	}
	for from := range f.Code {
		for to := range f.Code {
			if !leads(f, from, to) {
				continue
			}
			if out, ok := bounds.Edge(m, fn, from, to, a.In[from]); ok && !within(out, a.In[to]) {
				t.Fatalf("Run(%s, %d): %v comes from %d to %d, where %v stands", short(m), fn, out, from, to, a.In[to])
			}
		}
	}
	return a
}

// after does one instruction as the code's table says, with an answer for what is loaded or called, and tells which one follows; none: the run ends.
func after(m api.Module, f api.Func, at int, r []int64, answer int64) (int, bool) {
	x := f.Code[at]
	truth := func(yes bool) int64 {
		if yes {
			return 1
		}
		return 0
	}
	next := at + 1
	switch x.Op {
	case api.OpRet:
		return 0, false
	case api.OpSet:
		r[x.A] = x.N
	case api.OpMove:
		r[x.A] = r[x.B]
	case api.OpAdd:
		r[x.A] = r[x.B] + r[x.C]
	case api.OpSub:
		r[x.A] = r[x.B] - r[x.C]
	case api.OpMul:
		r[x.A] = r[x.B] * r[x.C]
	case api.OpDiv:
		if r[x.C] == 0 {
			return 0, false
		}
		r[x.A] = r[x.B] / r[x.C]
	case api.OpRem:
		if r[x.C] == 0 {
			return 0, false
		}
		r[x.A] = r[x.B] % r[x.C]
	case api.OpLess:
		r[x.A] = truth(r[x.B] < r[x.C])
	case api.OpEqual:
		r[x.A] = truth(r[x.B] == r[x.C])
	case api.OpNot:
		r[x.A] = truth(r[x.B] == 0)
	case api.OpLoad, api.OpStore:
		if !isWord(r[x.B], x.N, f.Words) {
			return 0, false
		}
		if x.Op == api.OpLoad {
			r[x.A] = answer
		}
	case api.OpCheck:
		if r[x.A] < 0 || r[x.A] >= x.N {
			return 0, false
		}
	case api.OpJump:
		next = int(x.N)
	case api.OpIf:
		if r[x.A] != 0 {
			next = int(x.N)
		}
	case api.OpUnless:
		if r[x.A] == 0 {
			next = int(x.N)
		}
	case api.OpCount:
		if r[x.A] >= r[x.B] {
			next = int(x.N)
		}
	case api.OpStep:
		r[x.A]++
		next = int(x.N)
	case api.OpCall:
		for i, p := range m.Funcs[x.N].Params {
			if r[x.B+i] < p.Lo || r[x.B+i] > p.Hi {
				return 0, false
			}
		}
		r[x.A] = answer
	}
	return next, true
}

// isWord tells whether the exact sum of two numbers is a word's number.
func isWord(x, n int64, words int) bool {
	sum := x + n
	exact := (x < 0) != (n < 0) || (sum < 0) == (x < 0)
	return exact && 0 <= sum && sum < int64(words)
}

// runs lets a function run some times by hand, each instruction held to what stands at it, and tells how many instructions were done.
func runs(t *testing.T, k maker, m api.Module, fn, times int) int {
	t.Helper()
	f, a := m.Funcs[fn], done(t, "runs", m, fn)
	steps := 0
	for range times {
		r := make([]int64, f.Regs)
		for i, p := range f.Params {
			r[i] = k.in(p)
		}
		for at, left := 0, 200; left > 0; left-- {
			if len(a.In[at]) != f.Regs {
				t.Fatalf("Run(%s, %d): nothing stands at %d, where %v came to", short(m), fn, at, r)
			}
			for i, v := range r {
				if v < a.In[at][i].Lo || v > a.In[at][i].Hi {
					t.Fatalf("Run(%s, %d): %v came to %d, where %v stands", short(m), fn, r, at, a.In[at])
				}
			}
			next, ok := after(m, f, at, r, k.value())
			if !ok {
				break
			}
			at = next
			steps++
		}
	}
	return steps
}

// both holds a module to the words' own meanings, and to what follows.
func both(t *testing.T, m api.Module) {
	t.Helper()
	against(t, m)
	for fn := range m.Funcs {
		follows(t, m, fn)
	}
}

// passing are all registers with which an instruction is left to another one, out of spans that are small, and what is behind it then.
func passing(m api.Module, from, to int, in []api.Span) (ahead, behind [][]int64) {
	r := make([]int64, len(in))
	var fill func(i int)
	fill = func(i int) {
		if i < len(in) {
			for v := in[i].Lo; v <= in[i].Hi; v++ {
				r[i] = v
				fill(i + 1)
			}
			return
		}
		was, is := slices.Clone(r), slices.Clone(r)
		if next, ok := after(m, m.Funcs[0], from, is, -99); ok && next == to {
			ahead, behind = append(ahead, was), append(behind, is)
		}
	}
	fill(0)
	return ahead, behind
}

// hull is from the least to the greatest of one register's numbers.
func hull(list [][]int64, register int) api.Span {
	a := n(list[0][register])
	for _, r := range list {
		a = s(min(a.Lo, r[register]), max(a.Hi, r[register]))
	}
	return a
}

// smallEdge holds an edge with small spans to all numbers in them, one by one.
func smallEdge(t *testing.T, m api.Module, from, to int, in []api.Span) {
	t.Helper()
	x := m.Funcs[0].Code[from]
	out, ok := bounds.Edge(m, 0, from, to, in)
	ahead, behind := passing(m, from, to, in)
	if ok != (len(ahead) > 0) {
		t.Fatalf("Edge(%v, %d, %d, %v): %v, %v, but %v", x, from, to, in, out, ok, ahead)
	}
	if !ok {
		return
	}
	for r := range in {
		left, put := hull(ahead, r), hull(behind, r)
		switch {
		case r == x.A && slices.Contains(writing, x.Op):
			if put.Lo < out[r].Lo || put.Hi > out[r].Hi {
				t.Fatalf("Edge(%v, %d, %d, %v): %v, but R[%d] is %v", x, from, to, in, out, r, put)
			}
		case x.Op == api.OpCount && r == x.B && x.A != x.B:
			// What B may hold is not narrowed.
			if out[r] != in[r] {
				t.Fatalf("Edge(%v, %d, %d, %v): %v, R[%d] is narrowed", x, from, to, in, out, r)
			}
		case out[r] != left:
			t.Fatalf("Edge(%v, %d, %d, %v): %v, but of R[%d] %v may pass", x, from, to, in, out, r, left)
		}
	}
}

// writing are the operations that write R[A].
var writing = []int{api.OpSet, api.OpMove, api.OpAdd, api.OpSub, api.OpMul, api.OpDiv, api.OpRem, api.OpLess, api.OpEqual, api.OpNot, api.OpLoad, api.OpStep, api.OpCall}

// P16.1, P16.3: each operation, with registers that are the same one and others, on each of its ways, with all small spans, held against all their numbers.
func TestSmallEdges(t *testing.T) {
	var spans []api.Span
	for lo := int64(-2); lo <= 2; lo++ {
		for hi := lo; hi <= 2; hi++ {
			spans = append(spans, s(lo, hi))
		}
	}
	for _, x := range kinds() {
		m := text("func f 2 2", "ret 0", "ret 0", "ret 0", "func g 2 0 -1 1 0 5", "ret 0", "func h 1 0 0 1", "ret 0", "func i 1 0", "ret 0")
		m.Funcs[0].Code[1] = x
		for _, a := range spans {
			for _, b := range spans {
				for to := range 3 {
					in := l(a, b)
					if againstEdge(t, m, 0, 1, to, in); leads(m.Funcs[0], 1, to) {
						smallEdge(t, m, 1, to, in)
					}
				}
			}
		}
	}
}

// kinds are instructions of two registers, each operation with all of them, as it may stand at 1 of three.
func kinds() []api.Ins {
	var list []api.Ins
	for a := range 2 {
		for _, x := range []int64{-2, 0, 3} {
			list = append(list, api.Ins{Op: api.OpSet, A: a, N: x})
		}
		for _, x := range []int64{1, 2, 9} {
			list = append(list, api.Ins{Op: api.OpCheck, A: a, N: x})
		}
		for to := range int64(3) {
			list = append(list, api.Ins{Op: api.OpIf, A: a, N: to}, api.Ins{Op: api.OpUnless, A: a, N: to}, api.Ins{Op: api.OpStep, A: a, N: to}, api.Ins{Op: api.OpJump, N: to})
		}
		for b := range 2 {
			list = append(list, api.Ins{Op: api.OpMove, A: a, B: b}, api.Ins{Op: api.OpNot, A: a, B: b})
			for x := int64(-2); x <= 3; x++ {
				list = append(list, api.Ins{Op: api.OpLoad, A: a, B: b, N: x}, api.Ins{Op: api.OpStore, A: a, B: b, N: x})
			}
			for to := range int64(3) {
				list = append(list, api.Ins{Op: api.OpCount, A: a, B: b, N: to})
			}
			for c := range 2 {
				for _, op := range []int{api.OpAdd, api.OpSub, api.OpMul, api.OpDiv, api.OpRem, api.OpLess, api.OpEqual} {
					list = append(list, api.Ins{Op: op, A: a, B: b, C: c})
				}
			}
			list = append(list, api.Ins{Op: api.OpCall, A: a, B: b, N: 2}, api.Ins{Op: api.OpCall, A: a, B: b, N: 3})
		}
		list = append(list, api.Ins{Op: api.OpCall, A: a, B: 0, N: 1}, api.Ins{Op: api.OpCall, A: a, B: 0, N: 0})
	}
	return list
}
