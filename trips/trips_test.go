package trips_test

import (
	"fmt"
	"slices"
	"strings"
	"testing"

	"soffit/api"
	"soffit/asm"
	"soffit/trips"
)

const (
	least = -1 << 63
	most  = 1<<63 - 1
	// endless is as many rounds as any count can have.
	endless = 1<<64 - 1
)

func s(lo, hi int64) api.Span { return api.Span{Lo: lo, Hi: hi} }

// text is the module of a text's lines, which is one that may be; a first line without `widen` has no thresholds.
func text(lines ...string) api.Module {
	if !strings.HasPrefix(lines[0], "widen") {
		lines = append([]string{"widen"}, lines...)
	}
	m, e, line, at := asm.Parse(strings.Join(lines, "\n") + "\n")
	if e != api.OK {
		panic(fmt.Sprint("the test's own text: ", lines, e, line, at))
	}
	return m
}

// short is a value's text, cut where it gets long.
func short(v any) string {
	s := fmt.Sprint(v)
	return s[:min(len(s), 900)]
}

// told holds a function to its loops' trips.
func told(t *testing.T, what string, m api.Module, fn int, want ...uint64) {
	t.Helper()
	l, e := trips.Of(m, fn)
	if e != api.OK || !slices.Equal(l, want) {
		t.Errorf("%s: Of(%s, %d): %s, %d, not %s", what, short(m), fn, short(l), e, short(want))
	}
}

// refused holds a function to an error.
func refused(t *testing.T, what string, m api.Module, fn int, want api.Errno) {
	t.Helper()
	if l, e := trips.Of(m, fn); e != want || len(l) != 0 {
		t.Errorf("%s: Of(%s, %d): %s, %d, not %d", what, short(m), fn, short(l), e, want)
	}
}

// P17.1: the chapter's examples.
func TestExamples(t *testing.T) {
	told(t, "10", text("func f 2 0", "set 1 10", "count 0 1 3", "step 0 1", "ret 0"), 0, 10)
	told(t, "below", text("func f 2 0", "set 1 -4", "count 0 1 3", "step 0 1", "ret 0"), 0, 0)
	told(t, "a parameter", text("func f 2 0 -3 9", "count 1 0 2", "step 1 0", "ret 1"), 0, 9)
	told(t, "a word", text("func f 3 1", "load 1 0 0", "count 2 1 3", "step 2 1", "ret 2"), 0, most)
	told(t, "two words", text("func f 3 1", "load 1 0 0", "load 2 0 0", "count 2 1 4", "step 2 2", "ret 2"), 0, endless)
	told(t, "not reached", text("func f 1 0", "ret 0", "jump 1"), 0)
	told(t, "nothing comes in", text("func f 2 0 7 9", "check 0 4", "count 1 0 3", "step 1 1", "ret 1"), 0, 0)
}

// P17.1: the error's number, as the chapter lists it, and those of loops.
func TestNumbers(t *testing.T) {
	for e, want := range map[api.Errno]int{api.OK: 0, api.ErrArg: 1, api.ErrReduce: 70, api.ErrHead: 71, api.ErrBack: 72, api.ErrDrive: 73, api.ErrExit: 74} {
		if int(e) != want {
			t.Errorf("%d, not %d", e, want)
		}
	}
}
