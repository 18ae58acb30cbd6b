package cost_test

import (
	"fmt"
	"slices"
	"strings"
	"testing"

	"soffit/api"
	"soffit/asm"
	"soffit/cost"
)

const (
	least = -1 << 63
	most  = 1<<63 - 1
)

func s(lo, hi int64) api.Span { return api.Span{Lo: lo, Hi: hi} }

// text is the module of a text's lines, which is one that may be; a first line without `widen` has no thresholds.
func text(lines ...string) api.Module {
	if !strings.HasPrefix(lines[0], "widen") {
		lines = append([]string{"widen"}, lines...)
	}
	m, e, line, at := asm.Parse(strings.Join(lines, "\n") + "\n")
	if e != api.OK {
		panic(fmt.Sprint("the test's own text: ", lines, e, line, at))
	}
	return m
}

// short is a value's text, cut where it gets long.
func short(v any) string {
	s := fmt.Sprint(v)
	return s[:min(len(s), 900)]
}

// told holds a module to its functions' ceilings.
func told(t *testing.T, what string, m api.Module, want ...api.Ceiling) {
	t.Helper()
	l, fault := cost.Of(m)
	if fault != (api.Fault{}) || !slices.Equal(l, want) {
		t.Errorf("%s: Of(%s): %s, %v, not %s", what, short(m), short(l), fault, short(want))
	}
}

// takes holds a module to its functions' Steps alone.
func takes(t *testing.T, what string, m api.Module, want ...int64) {
	t.Helper()
	l, fault := cost.Of(m)
	var steps []int64
	for _, c := range l {
		steps = append(steps, c.Steps)
	}
	if fault != (api.Fault{}) || !slices.Equal(steps, want) {
		t.Errorf("%s: Of(%s): Steps %s, %v, not %s", what, short(m), short(steps), fault, short(want))
	}
}

// refused holds a module to a fault, with no ceilings beside it.
func refused(t *testing.T, what string, m api.Module, e api.Errno, fn, at int) {
	t.Helper()
	if l, fault := cost.Of(m); fault != (api.Fault{E: e, Func: fn, At: at}) || len(l) != 0 {
		t.Errorf("%s: Of(%s): %s, %v, not %d, %d, %d", what, short(m), short(l), fault, e, fn, at)
	}
}

// P18.1: the chapter's examples.
func TestExamples(t *testing.T) {
	told(t, "a ret", text("func f 1 5", "ret 0"), api.Ceiling{Steps: 1, Frames: 1, Words: 6})
	told(t, "10 rounds", text("func f 3 0", "set 1 10", "count 0 1 4", "mul 2 2 2", "step 0 1", "ret 0"), api.Ceiling{Steps: 53, Frames: 1, Words: 3})
	told(t, "no rounds", text("func f 3 0", "set 1 0", "count 0 1 4", "mul 2 2 2", "step 0 1", "ret 0"), api.Ceiling{Steps: 3, Frames: 1, Words: 3})
	told(t, "two ways", text("func f 1 0", "if 0 3", "mul 0 0 0", "ret 0", "ret 0"), api.Ceiling{Steps: 5, Frames: 1, Words: 1})
	told(t, "a call", text("func f 1 0", "call 0 0 1", "ret 0", "func g 2 3", "set 0 1", "ret 0"), api.Ceiling{Steps: 7, Frames: 2, Words: 6}, api.Ceiling{Steps: 2, Frames: 1, Words: 5})
	refused(t, "too many rounds", text("func f 2 0", "set 1 9223372036854775807", "count 0 1 3", "step 0 1", "ret 0"), api.ErrCeiling, 0, 1)
	refused(t, "no count", text("func f 1 0", "jump 0"), api.ErrHead, 0, 0)
}

// P18.1: a module without functions has no ceilings, and no fault.
func TestNoFunctions(t *testing.T) {
	told(t, "nothing", api.Module{})
	told(t, "an empty list", api.Module{Funcs: []api.Func{}, Thresholds: []int64{}})
	told(t, "thresholds alone", api.Module{Thresholds: []int64{-5, 9}})
	told(t, "functions in spare room", api.Module{Funcs: text("func f 1 0", "jump 0").Funcs[:0]})
}

// P18.1: the errors' numbers, as the chapter lists them, and the greatest ceiling.
func TestNumbers(t *testing.T) {
	for e, want := range map[api.Errno]int{api.OK: 0, api.ErrReduce: 70, api.ErrHead: 71, api.ErrBack: 72, api.ErrDrive: 73, api.ErrExit: 74, api.ErrCycle: 75, api.ErrCeiling: 80} {
		if int(e) != want {
			t.Errorf("%d, not %d", e, want)
		}
	}
	if api.MaxCeiling != most {
		t.Error("the test's own greatest ceiling")
	}
}
