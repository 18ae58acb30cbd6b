package flow_test

import (
	"fmt"
	"slices"
	"testing"

	"soffit/api"
	"soffit/flow"
)

const (
	least = -1 << 63
	most  = 1<<63 - 1
)

// pair is an edge.
type pair struct{ u, v int }

var (
	ret = api.Ins{Op: api.OpRet}
	set = api.Ins{Op: api.OpSet, N: 1}
)

func jump(n int64) api.Ins   { return api.Ins{Op: api.OpJump, N: n} }
func when(n int64) api.Ins   { return api.Ins{Op: api.OpIf, N: n} }
func unless(n int64) api.Ins { return api.Ins{Op: api.OpUnless, N: n} }
func count(n int64) api.Ins  { return api.Ins{Op: api.OpCount, A: 0, B: 1, N: n} }
func step(n int64) api.Ins   { return api.Ins{Op: api.OpStep, N: n} }

func of(code ...api.Ins) api.Func { return api.Func{Code: code} }

// times is a row of the same instruction.
func times(n int, x api.Ins) []api.Ins { return slices.Repeat([]api.Ins{x}, n) }

// sample is the chapter's example.
func sample() api.Func {
	return of(count(4), api.Ins{Op: api.OpIf, A: 2, N: 3}, api.Ins{Op: api.OpAdd, A: 3, B: 3}, step(0), api.Ins{Op: api.OpRet, A: 3}, jump(5))
}

// nested are three loops within one another, with a way out of the innermost one to the outermost one's end.
func nested() api.Func {
	return of(count(11), set, count(10), set, count(9), when(8), when(10), set, step(4), step(2), step(0), ret)
}

// short is a value's text, cut where it gets long.
func short(v any) string {
	s := fmt.Sprint(v)
	return s[:min(len(s), 300)]
}

func next(t *testing.T, f api.Func, at int, want ...int) {
	t.Helper()
	if l := flow.Next(f, at); !slices.Equal(l, want) {
		t.Errorf("Next(%s, %d): %v, not %v", short(f.Code), at, l, want)
	}
}

// collect goes through a row of pairs once.
func collect(seq func(func(int, int) bool)) []pair {
	var l []pair
	for u, v := range seq {
		l = append(l, pair{u, v})
	}
	return l
}

// marks are the places of a list of bools that hold true.
func marks(l []bool) []int {
	var found []int
	for i, ok := range l {
		if ok {
			found = append(found, i)
		}
	}
	return found
}

// graph holds a function to the instructions that can be reached, its edges and its blocks.
func graph(t *testing.T, what string, f api.Func, reached []int, edges []pair, blocks []int) {
	t.Helper()
	l := flow.Reach(f)
	if len(l) != len(f.Code) {
		t.Errorf("%s: Reach tells of %d instructions, not of %d", what, len(l), len(f.Code))
	}
	if !slices.Equal(marks(l), reached) {
		t.Errorf("%s: %s can be reached, not %s", what, short(marks(l)), short(reached))
	}
	if l := collect(flow.Edges(f)); !slices.Equal(l, edges) {
		t.Errorf("%s: the edges are %s, not %s", what, short(l), short(edges))
	}
	if l := flow.Blocks(f); !slices.Equal(l, blocks) {
		t.Errorf("%s: the blocks are %s, not %s", what, short(l), short(blocks))
	}
}

// upTo are the numbers from 0 to n - 1.
func upTo(n int) []int {
	var l []int
	for i := range n {
		l = append(l, i)
	}
	return l
}

// row are the edges from each of n instructions to the one behind it, but the last one's.
func row(n int) []pair {
	var l []pair
	for i := range n - 1 {
		l = append(l, pair{i, i + 1})
	}
	return l
}

// P12.1 to P12.4: the chapter's examples.
func TestExamples(t *testing.T) {
	c := sample()
	next(t, c, 0, 1, 4)
	next(t, c, 1, 2, 3)
	next(t, c, 2, 3)
	next(t, c, 3, 0)
	next(t, c, 4)
	next(t, c, 5, 5)
	next(t, c, 6)
	next(t, c, -1)
	graph(t, "the example", c, []int{0, 1, 2, 3, 4}, []pair{{0, 1}, {0, 4}, {1, 2}, {1, 3}, {2, 3}, {3, 0}}, []int{0, 1, 2, 3, 4})
	next(t, of(when(1), ret), 0, 1)
	next(t, of(jump(7)), 0)
	next(t, of(set), 0)
	graph(t, "a loop of two", of(set, set, jump(1)), []int{0, 1, 2}, []pair{{0, 1}, {1, 2}, {2, 1}}, []int{0, 1})
	graph(t, "no code", of(), nil, nil, nil)
}
