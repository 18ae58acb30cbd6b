package flow_test

import (
	"testing"

	"soffit/api"
	"soffit/flow"
)

// P12.5: just so many instructions as there may be have a graph.
func TestMostCode(t *testing.T) {
	graph(t, "1024 in a row", of(times(1024, set)...), upTo(1024), row(1024), []int{0})
	graph(t, "1024 that end", of(times(1024, ret)...), []int{0}, nil, []int{0})
	code := times(1024, set)
	code[0], code[1023] = jump(1023), step(1)
	edges := []pair{{0, 1023}}
	for i := 1; i < 1023; i++ {
		edges = append(edges, pair{i, i + 1})
	}
	graph(t, "1024 round", of(code...), upTo(1024), append(edges, pair{1023, 1}), []int{0, 1, 1023})
	code[0], code[1023] = jump(1024), jump(0)
	graph(t, "1024, and a target behind them", of(code...), []int{0}, nil, []int{0})
	if api.MaxCode != 1024 {
		t.Error("the test's own limit")
	}
}

// P12.5: one more, and many more, have none, whatever they are.
func TestMoreCode(t *testing.T) {
	for _, length := range []int{1025, 1026, 2047, 2048, 2049, 5000, 1 << 16, 1 << 20} {
		for _, x := range []api.Ins{ret, set, jump(0), jump(1), when(0), count(1024), step(5), {Op: 20}} {
			f := of(times(length, x)...)
			if l := flow.Reach(f); len(l) != 0 {
				t.Errorf("Reach of %d instructions %v tells of %d", length, x, len(l))
			}
			if l := collect(flow.Edges(f)); len(l) != 0 {
				t.Errorf("Edges of %d instructions %v tells %d", length, x, len(l))
			}
			if l := flow.Blocks(f); len(l) != 0 {
				t.Errorf("Blocks of %d instructions %v tells %d", length, x, len(l))
			}
		}
	}
}

// P12.5: what counts is how many instructions there are, not how many of them can be reached, and not what lies in spare room.
func TestCounted(t *testing.T) {
	code := times(1025, ret)
	graph(t, "1024 of 1025", of(code[:1024]...), []int{0}, nil, []int{0})
	f := of(code...)
	if len(flow.Reach(f)) != 0 || len(flow.Blocks(f)) != 0 {
		t.Error("1025 instructions of which one can be reached have a graph")
	}
	next(t, of(set, set), 1)
	next(t, of([]api.Ins{set, set}[:1]...), 0)
	graph(t, "a jump to what lies in spare room", of([]api.Ins{jump(1), ret}[:1]...), []int{0}, nil, []int{0})
}
