package dom_test

import (
	"fmt"
	"slices"
	"testing"

	"soffit/api"
	"soffit/dom"
)

const (
	least = -1 << 63
	most  = 1<<63 - 1
)

var (
	ret = api.Ins{Op: api.OpRet}
	set = api.Ins{Op: api.OpSet, N: 1}
)

func jump(n int64) api.Ins   { return api.Ins{Op: api.OpJump, N: n} }
func when(n int64) api.Ins   { return api.Ins{Op: api.OpIf, N: n} }
func unless(n int64) api.Ins { return api.Ins{Op: api.OpUnless, N: n} }
func count(n int64) api.Ins  { return api.Ins{Op: api.OpCount, A: 0, B: 1, N: n} }
func step(n int64) api.Ins   { return api.Ins{Op: api.OpStep, N: n} }

func of(code ...api.Ins) api.Func { return api.Func{Code: code} }

// times is a row of the same instruction.
func times(n int, x api.Ins) []api.Ins { return slices.Repeat([]api.Ins{x}, n) }

// sample is the chapter's example.
func sample() api.Func {
	return of(count(4), api.Ins{Op: api.OpIf, A: 2, N: 3}, api.Ins{Op: api.OpAdd, A: 3, B: 3}, step(0), api.Ins{Op: api.OpRet, A: 3}, jump(5))
}

// nested are three loops within one another, with a way out of the innermost one to the outermost one's end.
func nested() api.Func {
	return of(count(11), set, count(10), set, count(9), when(8), when(10), set, step(4), step(2), step(0), ret)
}

// short is a value's text, cut where it gets long.
func short(v any) string {
	s := fmt.Sprint(v)
	return s[:min(len(s), 300)]
}

// tree holds a function to its nearest dominators.
func tree(t *testing.T, what string, f api.Func, want ...int) {
	t.Helper()
	if l := dom.Tree(f); !slices.Equal(l, want) {
		t.Errorf("%s: Tree(%s): %s, not %s", what, short(f.Code), short(l), short(want))
	}
}

// dominates holds one pair of numbers to whether the first dominates the second.
func dominates(t *testing.T, f api.Func, a, b int, want bool) {
	t.Helper()
	if dom.Dominates(f, a, b) != want {
		t.Errorf("Dominates(%s, %d, %d): %v", short(f.Code), a, b, !want)
	}
}

// P13.1, P13.2: the chapter's examples.
func TestExamples(t *testing.T) {
	c := sample()
	tree(t, "the example", c, -1, 0, 1, 1, 0, -1)
	dominates(t, c, 0, 4, true)
	dominates(t, c, 1, 3, true)
	dominates(t, c, 2, 3, false)
	dominates(t, c, 3, 3, true)
	dominates(t, c, 5, 5, false)
	dominates(t, c, 0, 6, false)
	tree(t, "two that lead to one another", of(when(2), jump(3), jump(3), jump(1)), -1, 0, 0, 0)
	tree(t, "no code", of())
}
