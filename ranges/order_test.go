package ranges_test

import (
	"testing"

	"soffit/api"
)

// P5.1: the order within one statement: its cases ahead of its calls, its bounds ahead of its calls, and all of it ahead of its bodies.
func TestWithinStatement(t *testing.T) {
	for stmt, e := range map[string]api.Errno{
		"switch g() { case 1 { } case 1 { } }": api.ErrTwice, "switch g(1) { case 1 { } case 2 { } }": api.ErrCount,
		"switch 1 { case 1 { let z[0]; } case 1 { } }": api.ErrTwice, "switch g(1) { case 1 { let z[0]; } }": api.ErrCount,
		"switch 1 { case 1 { for k in 0..x { } } case 1 { } else { let z[0]; } }": api.ErrTwice,
		"for k in g()..1 { }": api.ErrBound, "for k in 0..g(1) { }": api.ErrBound, "for k in g(1)..g() { }": api.ErrBound, "for k in g(1, 2)..0 { }": api.ErrBound, "for k in 0..t[g()] { }": api.ErrBound,
		"for k in 0..x { let z[0]; }": api.ErrBound, "for k in x..1 { g(); }": api.ErrBound,
		"if g() { let z[0]; }": api.ErrCount, "if g(1) { } else { for k in 0..x { } }": api.ErrCount,
	} {
		everywhere(t, stmt, e)
	}
}

// P5.1: of two faults the first, in two statements, a head and a body, and two functions.
func TestFirst(t *testing.T) {
	for _, c := range []struct {
		src    string
		e      api.Errno
		fn, at int
	}{
		{"fn f() { let t[0]; for i in 0..!1 { } }", api.ErrArg, 0, 1},
		{"fn f() { for i in 0..!1 { } let t[0]; }", api.ErrBound, 0, 1},
		{"fn f() { for i in 0..1 { let t[0]; } for i in 0..!1 { } }", api.ErrArg, 0, 2},
		{"fn f() { for i in 0..1 { switch 1 { case 1 { } case 1 { } } let t[0]; } }", api.ErrTwice, 0, 2},
		{"fn f() { if 1 { let t[0]; } else { for i in 0..!1 { } } }", api.ErrArg, 0, 2},
		{"fn f() { if 1 { return 1; } else { for i in 0..!1 { } } let t[0]; }", api.ErrBound, 0, 3},
		{"fn f() { switch 1 { case 1 { let t[0]; } case 2 { for i in 0..!1 { } } } }", api.ErrArg, 0, 2},
		{"fn f() { switch 1 { case 1 { } case 2 { for i in 0..!1 { } } else { let t[0]; } } }", api.ErrBound, 0, 2},
		{"fn f() { switch 1 { else { let t[0]; } } switch 1 { case 1 { } case 1 { } } }", api.ErrArg, 0, 2},
		{"fn f(a in 1..0) { let t[0]; }", api.ErrEmpty, 0, 0},
		{"fn f() { let t[0]; } fn g(a in 1..0) { }", api.ErrArg, 0, 1},
		{"fn f(a in 1..0) { } fn g() { let t[0]; }", api.ErrEmpty, 0, 0},
		{"fn f() { } fn g(a in 0..1, b in 1..0) { for i in 0..!1 { } } fn h(a in 1..0) { }", api.ErrEmpty, 1, 0},
		{"fn f(a in 0..1) { } fn g() { return 1; f(); } fn h(a in 1..0) { }", api.ErrCount, 1, 2},
		{"fn f(a in 0..1) { } fn g() { f(1); } fn h(a in 1..0) { f(); }", api.ErrEmpty, 2, 0},
		{"fn f(a in 0..1) { } fn g() { f(); let t[0]; }", api.ErrCount, 1, 1},
		{"fn f(a in 0..1) { } fn g() { let t[0]; f(); }", api.ErrArg, 1, 1},
		{"fn f(a in 0..1) { } fn g() { f(1); return f(f(), 1); let t[2000]; }", api.ErrCount, 1, 2},
		{"fn f() { return 1; } fn g() { return 1; return 2; switch 1 { case 5 { } case 5 { } } let t[0]; }", api.ErrTwice, 1, 3},
		{"fn f() { return 1; let t[0]; }", api.ErrArg, 0, 2}, // what no run comes to is asked too
	} {
		fault(t, c.src, c.e, c.fn, c.at)
	}
}
