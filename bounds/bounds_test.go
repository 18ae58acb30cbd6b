package bounds_test

import (
	"fmt"
	"slices"
	"strings"
	"testing"

	"soffit/api"
	"soffit/asm"
	"soffit/bounds"
)

const (
	least = -1 << 63
	most  = 1<<63 - 1
)

// all is every number.
var all = s(least, most)

func s(lo, hi int64) api.Span { return api.Span{Lo: lo, Hi: hi} }

// n is one number alone.
func n(x int64) api.Span { return s(x, x) }

// l are spans, to be read as a list.
func l(spans ...api.Span) []api.Span { return spans }

// text is the module of a text's lines, which is one that may be; a first line without `widen` has no thresholds.
func text(lines ...string) api.Module {
	if !strings.HasPrefix(lines[0], "widen") {
		lines = append([]string{"widen"}, lines...)
	}
	m, e, line, at := asm.Parse(strings.Join(lines, "\n") + "\n")
	if e != api.OK {
		panic(fmt.Sprint("the test's own text: ", lines, e, line, at))
	}
	return m
}

// short is a value's text, cut where it gets long.
func short(v any) string {
	s := fmt.Sprint(v)
	return s[:min(len(s), 900)]
}

// told holds an edge to what the registers may hold behind it.
func told(t *testing.T, what string, m api.Module, fn, from, to int, in []api.Span, want ...api.Span) {
	t.Helper()
	out, ok := bounds.Edge(m, fn, from, to, in)
	if !ok || !slices.Equal(out, want) {
		t.Errorf("%s: from %d to %d with %v: %v, %v, not %v", what, from, to, in, out, ok, want)
	}
}

// shut holds an edge to not being gone.
func shut(t *testing.T, what string, m api.Module, fn, from, to int, in []api.Span) {
	t.Helper()
	out, ok := bounds.Edge(m, fn, from, to, in)
	if ok || len(out) != 0 {
		t.Errorf("%s: from %d to %d with %v: %v, %v", what, from, to, in, out, ok)
	}
}

// done is a function's analysis.
func done(t *testing.T, what string, m api.Module, fn int) api.Analysis {
	t.Helper()
	a, e := bounds.Run(m, fn)
	if e != api.OK || len(a.In) != len(m.Funcs[fn].Code) || len(a.Changes) != len(m.Funcs[fn].Code) {
		t.Fatalf("%s: %d, %s", what, e, short(a))
	}
	return a
}

// stands holds an instruction to what stands at it.
func stands(t *testing.T, what string, a api.Analysis, at int, want ...api.Span) {
	t.Helper()
	if !slices.Equal(a.In[at], want) {
		t.Errorf("%s: at %d stands %v, not %v", what, at, a.In[at], want)
	}
}

// changed holds an instruction to how often its registers were changed.
func changed(t *testing.T, what string, a api.Analysis, at int, want ...int) {
	t.Helper()
	if !slices.Equal(a.Changes[at], want) {
		t.Errorf("%s: changed at %d %v, not %v", what, at, a.Changes[at], want)
	}
}

// refused holds a module to Run's error.
func refused(t *testing.T, what string, m api.Module, fn int, want api.Errno) {
	t.Helper()
	if a, e := bounds.Run(m, fn); e != want || len(a.In) != 0 || len(a.Changes) != 0 {
		t.Errorf("%s: %d, not %d: %s", what, e, want, short(a))
	}
}

// P16.1, P16.2: the chapter's examples.
func TestExamples(t *testing.T) {
	a := done(t, "first", text("func f 2 0", "set 0 5", "add 1 0 0", "ret 1"), 0)
	stands(t, "first", a, 0, n(0), n(0))
	stands(t, "first", a, 1, n(5), n(0))
	stands(t, "first", a, 2, n(5), n(10))
	for at := range 3 {
		changed(t, "first", a, at, 0, 0)
	}
	a = done(t, "loop", text("func f 2 0 -3 9", "count 1 0 2", "step 1 0", "ret 1"), 0)
	for at := range 3 {
		stands(t, "loop", a, at, s(-3, 9), all)
		changed(t, "loop", a, at, 0, 6)
	}
	a = done(t, "threshold", text("widen 8", "func f 2 0 -3 9", "count 1 0 2", "step 1 0", "ret 1"), 0)
	for at, want := range []api.Span{s(0, most), s(0, 8), s(0, most)} {
		stands(t, "threshold", a, at, s(-3, 9), want)
		changed(t, "threshold", a, at, 0, []int{6, 5, 6}[at])
	}
	m := text("func f 1 0", "if 0 7", "ret 0", "ret 0", "ret 0", "ret 0", "ret 0", "ret 0", "ret 0")
	told(t, "if", m, 0, 0, 7, l(s(0, 4)), s(1, 4))
	told(t, "if", m, 0, 0, 1, l(s(0, 4)), n(0))
	m = text("func f 2 0", "count 0 1 9", "ret 0", "ret 0", "ret 0", "ret 0", "ret 0", "ret 0", "ret 0", "ret 0", "ret 0")
	told(t, "count", m, 0, 0, 1, l(s(0, 9), s(3, 5)), s(0, 4), s(3, 5))
	told(t, "count", m, 0, 0, 9, l(s(0, 9), s(3, 5)), s(3, 9), s(3, 5))
	m.Funcs[0].Code[0].B = 0
	shut(t, "count of itself", m, 0, 0, 1, l(s(0, 9), s(3, 5)))
	told(t, "load", text("func f 2 4", "load 0 1 -2", "ret 0"), 0, 0, 1, l(n(0), s(0, 9)), all, s(2, 5))
	told(t, "div", text("func f 3 0", "div 0 1 2", "ret 0"), 0, 0, 1, l(n(0), s(7, 9), s(0, 2)), s(3, 9), s(7, 9), s(1, 2))
	m = text("func f 1 0 5 9", "check 0 4", "ret 0")
	shut(t, "check", m, 0, 0, 1, l(s(5, 9)))
	stands(t, "check", done(t, "check", m, 0), 1)
}

// P16.2: the errors' numbers, as the chapter lists them.
func TestNumbers(t *testing.T) {
	if api.ErrArg != 1 || api.OK != 0 || api.WidenAfter != 4 {
		t.Error(api.ErrArg, api.OK, api.WidenAfter)
	}
}
