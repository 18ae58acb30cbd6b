package trips_test

import (
	"testing"

	"soffit/api"
	"soffit/trips"
)

// after does one instruction as the code's table says, with an answer for what is loaded or called, and tells which one follows; none: the run ends.
func after(m api.Module, f api.Func, at int, r []int64, answer int64) (int, bool) {
	x := f.Code[at]
	truth := func(yes bool) int64 {
		if yes {
			return 1
		}
		return 0
	}
	next := at + 1
	switch x.Op {
	case api.OpRet:
		return 0, false
	case api.OpSet:
		r[x.A] = x.N
	case api.OpMove:
		r[x.A] = r[x.B]
	case api.OpAdd:
		r[x.A] = r[x.B] + r[x.C]
	case api.OpSub:
		r[x.A] = r[x.B] - r[x.C]
	case api.OpMul:
		r[x.A] = r[x.B] * r[x.C]
	case api.OpDiv:
		if r[x.C] == 0 {
			return 0, false
		}
		r[x.A] = r[x.B] / r[x.C]
	case api.OpRem:
		if r[x.C] == 0 {
			return 0, false
		}
		r[x.A] = r[x.B] % r[x.C]
	case api.OpLess:
		r[x.A] = truth(r[x.B] < r[x.C])
	case api.OpEqual:
		r[x.A] = truth(r[x.B] == r[x.C])
	case api.OpNot:
		r[x.A] = truth(r[x.B] == 0)
	case api.OpLoad, api.OpStore:
		if !isWord(r[x.B], x.N, f.Words) {
			return 0, false
		}
		if x.Op == api.OpLoad {
			r[x.A] = answer
		}
	case api.OpCheck:
		if r[x.A] < 0 || r[x.A] >= x.N {
			return 0, false
		}
	case api.OpJump:
		next = int(x.N)
	case api.OpIf:
		if r[x.A] != 0 {
			next = int(x.N)
		}
	case api.OpUnless:
		if r[x.A] == 0 {
			next = int(x.N)
		}
	case api.OpCount:
		if r[x.A] >= r[x.B] {
			next = int(x.N)
		}
	case api.OpStep:
		r[x.A]++
		next = int(x.N)
	case api.OpCall:
		for i, p := range m.Funcs[x.N].Params {
			if r[x.B+i] < p.Lo || r[x.B+i] > p.Hi {
				return 0, false
			}
		}
		r[x.A] = answer
	}
	return next, true
}

// isWord tells whether the exact sum of two numbers is a word's number.
func isWord(x, n int64, words int) bool {
	sum := x + n
	exact := (x < 0) != (n < 0) || (sum < 0) == (x < 0)
	return exact && 0 <= sum && sum < int64(words)
}

// tally is what a test's own functions and their runs had.
type tally struct {
	functions, uncounted, loops, several, none, endless int
	entered, rounds, full                               int
}

// runs holds a function's trips to P17.2, by some runs with numbers at random.
func (y *tally) runs(t *testing.T, k maker, m api.Module, fn, times int) {
	t.Helper()
	y.functions++
	l, e := trips.Of(m, fn)
	if e != api.OK {
		y.uncounted++
		return
	}
	y.loops += len(l)
	if len(l) > 1 {
		y.several++
	}
	for _, n := range l {
		switch {
		case n == 0:
			y.none++
		case n >= most:
			y.endless++
		}
	}
	if len(l) == 0 {
		return
	}
	found := graphOf(m.Funcs[fn]).loops()
	for range times {
		y.run(t, k, m, fn, found, l)
	}
}

// run is one run, which is given up after so many instructions: each time that a loop is come to from outside its rounds are counted anew.
func (y *tally) run(t *testing.T, k maker, m api.Module, fn int, found []loop, trips []uint64) {
	t.Helper()
	f := m.Funcs[fn]
	r := make([]int64, f.Regs)
	for i, p := range f.Params {
		r[i] = k.in(p)
	}
	rounds := make([]uint64, len(found))
	for at, came, left := 0, -1, 300; left > 0; left-- {
		next, ok := after(m, f, at, r, k.value())
		for i, l := range found {
			if l.head != at {
				continue
			}
			if came < 0 || !l.members[came] {
				rounds[i] = 0
				y.entered++
			}
			if next == at+1 {
				rounds[i]++
				y.rounds++
			} else if rounds[i] > 0 && rounds[i] == trips[i] {
				y.full++
			}
			if rounds[i] > trips[i] {
				t.Fatalf("Of(%s, %d): %v, but the loop of %d has %d rounds", short(m), fn, trips, at, rounds[i])
			}
		}
		if !ok {
			return
		}
		came, at = at, next
	}
}

// P17.2: loops by hand whose runs have just as many rounds as there are trips, each time that they are entered.
func TestFull(t *testing.T) {
	k := newMaker(20)
	for _, c := range []struct {
		what                  string
		m                     api.Module
		entered, rounds, full int
	}{
		{"one", text("func f 2 0", "set 1 10", "count 0 1 3", "step 0 1", "ret 0"), 1, 10, 1},
		{"from below", text("func f 2 0", "set 0 -7", "set 1 -2", "count 0 1 4", "step 0 2", "ret 0"), 1, 5, 1},
		{"a parameter", text("func f 2 0 9 9", "count 1 0 2", "step 1 0", "ret 1"), 1, 9, 1},
		{"one behind the other", text("func f 2 0 9 9", "count 1 0 2", "step 1 0", "set 1 4", "count 1 0 5", "step 1 3", "ret 1"), 2, 14, 2},
		{"one within the other", text("func f 4 0 5 5 4 4", "count 2 0 5", "set 3 0", "count 3 1 4", "step 3 2", "step 2 0", "ret 1"), 6, 25, 6},
		{"never", text("func f 2 0 -9 0", "count 1 0 2", "step 1 0", "ret 1"), 1, 0, 0},
		{"left ahead of its end", text("func f 2 0 9 9", "count 1 0 3", "if 1 3", "step 1 0", "ret 1"), 1, 2, 0},
		{"not come to", text("func f 2 0 9 9", "check 0 9", "count 1 0 3", "step 1 1", "ret 1"), 0, 0, 0},
	} {
		var y tally
		y.runs(t, k, c.m, 0, 1)
		if y.entered != c.entered || y.rounds != c.rounds || y.full != c.full {
			t.Errorf("%s: %+v", c.what, y)
		}
	}
}

// P17.2: at the ends: as many rounds as there are numbers, but for one, are not too few; a count at its bound has none.
func TestRunAtEnds(t *testing.T) {
	k := newMaker(21)
	var y tally
	for _, span := range []api.Span{s(most, most), s(most-1, most), s(most-9, most), s(least, least), s(least, least+5), s(least, most)} {
		for _, bound := range []api.Span{s(most, most), s(most-3, most-1), s(least, least), s(least+1, least+7), s(least, most)} {
			m := text("func f 2 0 0 0 0 0", "count 0 1 2", "step 0 0", "ret 0")
			m.Funcs[0].Params[0], m.Funcs[0].Params[1] = span, bound
			y.runs(t, k, m, 0, 30)
		}
	}
	if y.none < 5 || y.full < 30 || y.rounds < 20000 || y.endless < 5 {
		t.Errorf("the test's own runs: %+v", y)
	}
}
