package names_test

import (
	"fmt"
	"math"
	"slices"
	"strings"
	"testing"

	"soffit/api"
	"soffit/names"
)

// calls holds Calls to what each function of a source calls.
func calls(t *testing.T, src string, want ...[]int) {
	t.Helper()
	fine(t, src)
	p := read(t, src)
	for i, w := range want {
		if l := names.Calls(p, i); !slices.Equal(l, w) {
			t.Errorf("%.200s: %d calls %v, not %v", src, i, l, w)
		}
	}
	for _, i := range []int{-1, math.MinInt, len(want), len(want) + 1, math.MaxInt} {
		if l := names.Calls(p, i); len(l) != 0 {
			t.Errorf("%.200s: %d, which is none, calls %v", src, i, l)
		}
	}
}

// P4.2: the functions called, rising, each once.
func TestCalls(t *testing.T) {
	calls(t, "")
	calls(t, "fn f() { }", []int{})
	calls(t, "fn f() { } fn g() { f(); f(); }", []int{}, []int{0})
	calls(t, "fn a() { } fn b() { } fn c() { } fn d() { c(); a(); b(); c(); a(); }", nil, nil, nil, []int{0, 1, 2})
	calls(t, "fn a() { } fn b() { a(); } fn c() { b(); } fn d() { c(); }", nil, []int{0}, []int{1}, []int{2}) // not what these call in turn
	calls(t, "fn a() { } fn b() { a(); } fn c() { }", nil, []int{0}, nil)
	calls(t, "fn a() { } fn b() { } fn c() { return b(a()); }", nil, nil, []int{0, 1})
	calls(t, "fn a() { } fn b() { let a = 1; return a; } fn c() { for a in 0..1 { let b[2]; b[a] = a; } }", nil, nil, nil)
}

// P4.2: wherever in a Body the call stands.
func TestCallPlaces(t *testing.T) {
	for _, s := range []string{
		"b();", "let x = b();", "p = b();", "t[b()] = 1;", "t[1] = b();", "if b() { }", "if 1 { b(); }", "if 1 { } else { b(); }", "switch b() { }", "switch 1 { case 1 { b(); } }",
		"switch 1 { case 1 { } case 2 { b(); } }", "switch 1 { else { b(); } }", "for i in b()..1 { }", "for i in 0..b() { }", "for i in 0..1 { b(); }", "return b();", "return 1; b();",
		"return t[b()];", "return -b();", "return !b();", "return 1 + b();", "return b() * 1;", "return b() ? 1 : 2;", "return 1 ? b() : 2;", "return 1 ? 2 : b();", "return 0 && b();", "d(b());", "d(1, 2, b());", "return b(b(b()));",
	} {
		src := "fn a() { } fn b() { } fn c() { } fn d() { } fn f(p in 0..1) { let t[2]; " + s + " }"
		want := []int{1}
		if strings.Contains(s, "d(") {
			want = []int{1, 3}
		}
		calls(t, src, nil, nil, nil, nil, want)
	}
}

// P4.2: as many functions as may be, called by the last one from the last to the first.
func TestCallsAll(t *testing.T) {
	var src, row strings.Builder
	var want [][]int
	var all []int
	for i := range api.MaxFuncs - 1 {
		fmt.Fprintf(&src, "fn f%d() { } ", i)
		fmt.Fprintf(&row, "f%d(f%d()); ", api.MaxFuncs-2-i, i)
		want = append(want, nil)
		all = append(all, i)
	}
	calls(t, src.String()+"fn last() { "+row.String()+row.String()+"}", append(want, all)...)
}

// P4.2: none of a program that Check refuses, even if the function itself, and what it calls, are right.
func TestCallsRefused(t *testing.T) {
	for _, s := range []string{"fn a() { } fn b() { a(); } fn c() { break; }", "fn a() { } fn b() { a(); } fn a() { }", "fn a() { } fn b() { a(); } fn c(p in 0..1, p in 0..1) { }", "fn a() { } fn b() { a(); z = 1; }", "fn a() { } fn b() { a(); b(); }"} {
		p := read(t, s)
		if f := names.Check(p); f.E == api.OK {
			t.Errorf("%s: is right", s)
		}
		noCalls(t, p)
	}
	p := read(t, "widen 1, 2; fn a() { } fn b() { a(); }")
	if l := names.Calls(p, 1); !slices.Equal(l, []int{0}) {
		t.Errorf("%v", l)
	}
	p.Widen[0] = 2
	noCalls(t, p)
}
