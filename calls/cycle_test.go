package calls_test

import (
	"testing"

	"soffit/api"
)

// P15.2: a function that calls itself, by each instruction of its code.
func TestItself(t *testing.T) {
	for _, at := range []int{0, 1, 2, 63, 64, 1000, 1023} {
		for fn := range 4 {
			m := module(make([]api.Func, 4)...)
			m.Funcs[fn] = of(append(times(at, pass), call(int64(fn)))...)
			refused(t, "itself", m, api.ErrCycle, fn, at)
		}
	}
	refused(t, "the only one", module(of(call(0))), api.ErrCycle, 0, 0)
	refused(t, "twice", module(of(pass, call(0), call(0), ret)), api.ErrCycle, 0, 1)
	refused(t, "two that call themselves", graph(nil, to(1), to(2)), api.ErrCycle, 1, 0)
	refused(t, "all that call themselves", graph(to(0), to(1), to(2)), api.ErrCycle, 0, 0)
	refused(t, "behind calls of others", graph(to(1, 2, 0), nil, nil), api.ErrCycle, 0, 2)
}

// P15.2: rings of so many functions, rising and falling, behind others and ahead of others.
func TestRings(t *testing.T) {
	for length := 2; length <= 32; length++ {
		up, down := make([][]int, length), make([][]int, length)
		for i := range length {
			up[i] = to((i + 1) % length)
			down[i] = to((i + length - 1) % length)
		}
		refused(t, "rising", graph(up...), api.ErrCycle, 0, 0)
		refused(t, "falling", graph(down...), api.ErrCycle, 0, 0)
		first := make([][]int, length)
		for i := 1; i < length; i++ {
			first[i] = to(0, 1+i%(length-1))
		}
		refused(t, "all but the first one, which they call", graph(first...), api.ErrCycle, 1, 1)
		first[0] = to(length - 1)
		refused(t, "all but the first one, and it", graph(first...), api.ErrCycle, 0, 0)
		for i := 1; i < length; i++ {
			first[i] = to(1 + i%(length-1))
		}
		refused(t, "all but the first one, which leads into it", graph(first...), api.ErrCycle, 1, 0)
	}
}

// P15.2: at the least function that leads to itself, not at one that only leads into a ring, nor at one to which a ring leads.
func TestLeastFunction(t *testing.T) {
	for _, c := range []struct {
		what   string
		called [][]int
		fn, at int
	}{
		{"one leads in", [][]int{to(1), to(2), to(1)}, 1, 0},
		{"one leads in by another one", [][]int{to(1), to(2), to(3), to(2)}, 2, 0},
		{"many lead in", [][]int{to(4), to(4), to(3), to(0, 1), to(5), to(4)}, 4, 0},
		{"the last one leads in", [][]int{to(1), to(0), to(0)}, 0, 0},
		{"it leads to a lesser one", [][]int{nil, to(0, 2), to(0, 1)}, 1, 1},
		{"it leads to a lesser one that leads on", [][]int{to(3), to(0, 2), to(1), nil}, 1, 1},
		{"one leads into two", [][]int{to(3, 1), to(2), to(1), to(4), to(3)}, 1, 0},
		{"two beside each other", [][]int{nil, to(4), to(3), to(2), to(1)}, 1, 0},
		{"two, the greater one first gone to", [][]int{to(3, 1), to(2), to(1), to(3)}, 1, 0},
		{"one ring leads into another one", [][]int{to(2), nil, to(3, 0), to(4), to(3)}, 0, 0},
		{"one ring is led into from another one, of greater ones", [][]int{nil, to(2), to(1), to(1, 4), to(3)}, 1, 0},
		{"a ring and a call of itself within it", [][]int{to(1), to(1, 0)}, 0, 0},
		{"a call of itself, and it leads into a ring", [][]int{to(1, 0), to(2), to(1)}, 0, 1},
		{"into a ring by an edge to its greatest", [][]int{to(3), to(2), to(3), to(1)}, 1, 0},
		{"an eight", [][]int{nil, to(2), to(1, 3), to(2)}, 1, 0},
		{"all call all", [][]int{to(0, 1, 2), to(0, 1, 2), to(0, 1, 2)}, 0, 0},
		{"all but the first one call all", [][]int{nil, to(0, 1, 2), to(0, 1, 2)}, 1, 1},
	} {
		refused(t, c.what, graph(c.called...), api.ErrCycle, c.fn, c.at)
	}
}

// P15.2: at its least instruction that can be reached and is a call of itself, or of one that leads back.
func TestLeastInstruction(t *testing.T) {
	for _, c := range []struct {
		what   string
		m      api.Module
		fn, at int
	}{
		{"behind a call of one that calls nothing", graph(to(2, 1), to(0), nil), 0, 1},
		{"behind a call of one that leads into another ring", graph(to(1, 2), to(1), to(0)), 0, 1},
		{"behind a call of one that leads elsewhere", graph(to(1, 3, 2), to(3), to(0), nil), 0, 2},
		{"itself ahead of one that leads back", graph(to(0, 1), to(0)), 0, 0},
		{"one that leads back ahead of itself", graph(to(1, 0), to(0)), 0, 0},
		{"one that leads back over a long way ahead of a short one", graph(to(4, 1), to(0), to(1), to(2), to(3)), 0, 0},
		{"a short way ahead of a long one", graph(to(1, 4), to(0), to(1), to(2), to(3)), 0, 0},
		{"the greater function ahead of the lesser one", graph(to(2, 1), to(0), to(0)), 0, 0},
		{"the lesser function ahead of the greater one", graph(to(1, 2), to(0), to(0)), 0, 0},
		{"one that leads back, called twice", module(of(pass, call(1), pass, call(1), ret), of(call(0), ret)), 0, 1},
		{"behind calls of no functions", module(of(call(-1), call(2), call(1<<32), call(1), ret), of(call(0), ret)), 0, 3},
		{"behind one that can't be reached", module(of(jump(2), call(1), call(1), ret), of(call(0), ret)), 0, 2},
		{"ahead of it by number, but led to by it", module(of(jump(2), call(1), when(1), call(1), ret), of(call(0), ret)), 0, 1},
		{"the first one gone to is the greater one", module(of(jump(3), call(0), ret, call(0), jump(1))), 0, 1},
		{"at an if's target", module(of(when(2), ret, call(1), ret), of(call(0), ret)), 0, 2},
		{"in a loop", module(of(api.Ins{Op: api.OpCount, B: 1, N: 3}, call(1), api.Ins{Op: api.OpStep}, ret), of(call(0), ret)), 0, 1},
		{"of one whose call back can't be reached, then of one whose can", module(of(call(1), call(2), ret), of(ret, call(0)), of(call(0), ret)), 0, 1},
		{"another's instruction is no matter", module(of(ret), of(pass, pass, call(2), ret), of(call(1), ret)), 1, 2},
		{"other operations with its number", module(of(api.Ins{Op: api.OpSet, N: 0}, api.Ins{Op: api.OpLoad, N: 0}, call(0))), 0, 2},
	} {
		refused(t, c.what, c.m, api.ErrCycle, c.fn, c.at)
	}
}
