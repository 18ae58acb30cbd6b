package calls_test

import (
	"slices"
	"testing"

	"soffit/api"
	"soffit/calls"
)

// leads tells of one pair of instructions whether the one leads to the other, as P12.1 says it.
func leads(code []api.Ins, u, v int) bool {
	x := code[u]
	switch x.Op {
	case api.OpRet:
		return false
	case api.OpJump, api.OpStep:
		return x.N == int64(v)
	case api.OpIf, api.OpUnless, api.OpCount:
		return v == u+1 || x.N == int64(v)
	}
	return x.Op >= 0 && x.Op <= 19 && v == u+1
}

// reachedOf is what can be reached, told by rounds over all pairs until one finds nothing new.
func reachedOf(code []api.Ins) []bool {
	reached := make([]bool, len(code))
	if len(code) == 0 || len(code) > 1024 {
		return reached
	}
	reached[0] = true
	for found := true; found; {
		found = false
		for u := range code {
			for v := range code {
				if reached[u] && !reached[v] && leads(code, u, v) {
					reached[v], found = true, true
				}
			}
		}
	}
	return reached
}

// model is what a module's functions call by each of their instructions (-1: nothing), and which of them leads to which.
type model struct {
	by    [][]int
	leads [][]bool
}

func modelOf(m api.Module) model {
	var w model
	for _, f := range m.Funcs {
		by, leads := make([]int, len(f.Code)), make([]bool, len(m.Funcs))
		for at, ok := range reachedOf(f.Code) {
			by[at] = -1
			for fn := range m.Funcs {
				if ok && f.Code[at].Op == api.OpCall && f.Code[at].N == int64(fn) {
					by[at], leads[fn] = fn, true
				}
			}
		}
		w.by, w.leads = append(w.by, by), append(w.leads, leads)
	}
	// By each function in turn, those are joined that lead there and to which it leads.
	for mid := range w.leads {
		for from := range w.leads {
			for to := range w.leads {
				w.leads[from][to] = w.leads[from][to] || w.leads[from][mid] && w.leads[mid][to]
			}
		}
	}
	return w
}

// calls tells whether a function calls another one.
func (w model) calls(fn, other int) bool { return slices.Contains(w.by[fn], other) }

// ring is what is wrong, by P15.2's words; OK: nothing.
func (w model) ring() api.Fault {
	for fn := range w.leads {
		if !w.leads[fn][fn] {
			continue
		}
		at := slices.IndexFunc(w.by[fn], func(n int) bool { return n >= 0 && (n == fn || w.leads[n][fn]) })
		return api.Fault{E: api.ErrCycle, Func: fn, At: at}
	}
	return api.Fault{}
}

// may tells whether a function may come behind some of the order: it isn't there, and all that it calls are.
func (w model) may(fn int, order []int) bool {
	if slices.Contains(order, fn) {
		return false
	}
	for other := range w.leads {
		if w.calls(fn, other) && !slices.Contains(order, other) {
			return false
		}
	}
	return true
}

// leastFirst holds an order to having at each place the least function that may come there, and to having all.
func (w model) leastFirst(order []int) bool {
	for i, fn := range order {
		for other := range fn {
			if w.may(other, order[:i]) {
				return false
			}
		}
		if fn < 0 || fn >= len(w.leads) || !w.may(fn, order[:i]) {
			return false
		}
	}
	return len(order) == len(w.leads)
}

// against holds both calls to the words' own meanings, and tells what a module came to.
func against(t *testing.T, m api.Module) api.Errno {
	t.Helper()
	w := modelOf(m)
	for fn := -2; fn < len(m.Funcs)+2; fn++ {
		var want []int
		for other := range m.Funcs {
			if fn >= 0 && fn < len(m.Funcs) && w.calls(fn, other) {
				want = append(want, other)
			}
		}
		if l := calls.Of(m, fn); !slices.Equal(l, want) {
			t.Fatalf("Of(%s, %d): %v, not %v", codes(m), fn, l, want)
		}
	}
	l, fault := calls.Order(m)
	want := w.ring()
	if len(m.Funcs) > 32 {
		want = api.Fault{E: api.ErrMany, Func: 32}
	}
	if fault != want || fault.E != api.OK && len(l) != 0 {
		t.Fatalf("Order(%s): %v, %v, not %v", codes(m), l, fault, want)
	}
	if fault.E == api.OK && !w.leastFirst(l) {
		t.Fatalf("Order(%s): %v", codes(m), l)
	}
	return fault.E
}

// follows holds a module to P15.3, by what is told of it alone.
func follows(t *testing.T, m api.Module) {
	t.Helper()
	order, fault := calls.Order(m)
	if fault.E != api.OK {
		return
	}
	sorted := slices.Sorted(slices.Values(order))
	if !slices.Equal(sorted, upTo(len(m.Funcs))) {
		t.Fatalf("Order(%s): %v: not each one once", codes(m), order)
	}
	for i, fn := range order {
		// All to which it leads are those that it calls, and those that these call in turn.
		behind := calls.Of(m, fn)
		for n := 0; n < len(behind); n++ {
			if !slices.Contains(order[:i], behind[n]) {
				t.Fatalf("Order(%s): %v: %d leads to %d, which isn't ahead of it", codes(m), order, fn, behind[n])
			}
			for _, other := range calls.Of(m, behind[n]) {
				if !slices.Contains(behind, other) {
					behind = append(behind, other)
				}
			}
		}
	}
}

// both holds a module to the words' own meanings, and to what follows.
func both(t *testing.T, m api.Module) api.Errno {
	t.Helper()
	follows(t, m)
	return against(t, m)
}

// every goes through all rows of some numbers below another one.
func every(below int, row []int, at int, do func()) {
	if at == len(row) {
		do()
		return
	}
	for n := range below {
		row[at] = n
		every(below, row, at+1, do)
	}
}

// bits are the numbers of those that are set.
func bits(n int) []int {
	var l []int
	for i := 0; n>>i > 0; i++ {
		if n>>i&1 == 1 {
			l = append(l, i)
		}
	}
	return l
}

// P15.1 to P15.3: all ways in which so many functions can call one another, by rising number and by falling.
func TestEveryGraph(t *testing.T) {
	for length := range 5 {
		row := make([]int, length)
		called := make([][]int, length)
		tally := map[api.Errno]int{}
		every(1<<length, row, 0, func() {
			for fn, n := range row {
				called[fn] = bits(n)
				if (fn+n)%2 == 1 {
					slices.Reverse(called[fn])
				}
			}
			tally[both(t, graph(called...))]++
		})
		// So many ways there are without a round one.
		if want := []int{1, 1, 3, 25, 543}[length]; tally[api.OK] != want || tally[api.OK]+tally[api.ErrCycle] != 1<<(length*length) {
			t.Errorf("%d functions: %v", length, tally)
		}
	}
}

// bodies are all codes of up to so many instructions of a list.
func bodies(list []api.Ins, length int) []api.Func {
	var all []api.Func
	for n := range length + 1 {
		row := make([]int, n)
		every(len(list), row, 0, func() {
			var f api.Func
			for _, i := range row {
				f.Code = append(f.Code, list[i])
			}
			all = append(all, f)
		})
	}
	return all
}

// P15.1 to P15.3: all small modules: one function of up to four instructions, two of up to three, three of up to one and two.
func TestEverySmall(t *testing.T) {
	for _, f := range bodies([]api.Ins{ret, pass, call(0), call(1), call(-1), jump(0), jump(2), jump(3), when(2), when(3), {Op: 20}}, 4) {
		both(t, module(f))
	}
	two := bodies([]api.Ins{ret, call(0), call(1), call(2), jump(2), when(2)}, 3)
	for _, f := range two {
		for _, g := range two {
			both(t, module(f, g))
		}
	}
	three := bodies([]api.Ins{ret, pass, call(0), call(1), call(2), when(0)}, 2)
	for _, f := range three {
		for _, g := range three {
			for _, h := range three {
				both(t, module(f, g, h))
			}
		}
	}
}
