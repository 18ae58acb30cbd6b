package calls_test

import (
	"testing"

	"soffit/api"
)

// P15.2: again and again the least one of those of which all that they call are there.
func TestOrderLeast(t *testing.T) {
	for _, c := range []struct {
		what   string
		called [][]int
		want   []int
	}{
		{"one", [][]int{nil}, to(0)},
		{"two", [][]int{nil, nil}, to(0, 1)},
		{"the second one calls the first one", [][]int{nil, to(0)}, to(0, 1)},
		{"the first one calls the second one", [][]int{to(1), nil}, to(1, 0)},
		{"the first one waits for the last one, the others need not", [][]int{to(3), nil, nil, nil}, to(1, 2, 3, 0)},
		{"the first one may come ahead of the last one", [][]int{to(2), nil, nil, nil}, to(1, 2, 0, 3)},
		{"each that is done frees a lesser one", [][]int{to(1), to(3), nil, to(4), nil, nil}, to(2, 4, 3, 1, 0, 5)},
		{"two that wait for one", [][]int{to(2), to(2), nil, nil}, to(2, 0, 1, 3)},
		{"one that waits for two, lesser first", [][]int{to(2, 3), nil, nil, nil, nil}, to(1, 2, 3, 0, 4)},
		{"one that waits for two, greater first", [][]int{to(3, 2), nil, nil, nil, nil}, to(1, 2, 3, 0, 4)},
		{"a square", [][]int{to(1, 2), to(3), to(3), nil}, to(3, 1, 2, 0)},
		{"a square the other way", [][]int{nil, to(0), to(0), to(1, 2)}, to(0, 1, 2, 3)},
		{"two chains that cross", [][]int{to(2), to(3), to(5), to(4), nil, nil}, to(4, 3, 1, 5, 2, 0)},
		{"two apart", [][]int{to(4), to(5), nil, nil, nil, to(3)}, to(2, 3, 4, 0, 5, 1)},
		{"a call by a way of two and by itself", [][]int{to(1, 2), to(2), nil}, to(2, 1, 0)},
		{"calls by several instructions", [][]int{to(2, 1, 2, 1, 2), to(2, 2, 2), nil}, to(2, 1, 0)},
	} {
		ordered(t, c.what, graph(c.called...), c.want...)
	}
}

// P15.2: calls that can't be reached, and of what is no function, are waited for by nobody.
func TestOrderReached(t *testing.T) {
	ordered(t, "behind a ret", module(of(ret, call(1), ret), of(ret)), 0, 1)
	ordered(t, "behind a jump", module(of(jump(2), call(1), ret), of(ret)), 0, 1)
	ordered(t, "at a jump's target", module(of(jump(2), ret, call(1), ret), of(ret)), 1, 0)
	ordered(t, "on one way of two", module(of(when(2), ret, call(1), ret), of(ret)), 1, 0)
	ordered(t, "no function", module(of(call(-1), call(2), call(1<<32+1), ret), of(ret)), 0, 1)
	ordered(t, "no function, and one", module(of(call(-1), call(2), call(1), ret), of(ret)), 1, 0)
	ordered(t, "a way without an end", module(of(call(1), jump(0)), of(jump(0))), 1, 0)
}

// P15.2: a call that can't be reached makes no ring.
func TestNoRing(t *testing.T) {
	ordered(t, "itself", module(of(ret, call(0), ret)), 0)
	ordered(t, "itself, over a jump", module(of(jump(2), call(0), ret)), 0)
	ordered(t, "itself, in a round that can't be reached", module(of(ret, call(0), jump(1))), 0)
	ordered(t, "two, neither way", module(of(ret, call(1)), of(ret, call(0))), 0, 1)
	ordered(t, "two, one way", module(of(call(1), ret), of(ret, call(0))), 1, 0)
	ordered(t, "two, the other way", module(of(ret, call(1)), of(call(0), ret)), 0, 1)
	ordered(t, "three", module(of(call(1), ret), of(call(2), ret), of(ret, call(0))), 2, 1, 0)
	ordered(t, "behind what is no operation", module(of(call(1), ret), of(api.Ins{Op: -1}, call(0))), 1, 0)
	m := graph(to(1), to(2), to(0))
	m.Funcs[2].Code = append([]api.Ins{ret}, m.Funcs[2].Code...)
	ordered(t, "a ring that is cut", m, 2, 1, 0)
}
