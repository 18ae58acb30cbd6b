package mean_test

import (
	"math"
	"strconv"
	"strings"
	"testing"

	"soffit/api"
	"soffit/mean"
	"soffit/parse"
	"soffit/ranges"
)

const (
	least    = math.MinInt64
	greatest = math.MaxInt64
)

func read(t *testing.T, src string) api.Program {
	t.Helper()
	p, e, at := parse.Parse(src)
	if e != api.OK {
		t.Fatalf("%.200q: %d at %d", src, e, at)
	}
	return p
}

// num is a text whose value a number is. (The least one has no text of its own.)
func num(n int64) string {
	if n == least {
		return "(-9223372036854775807 - 1)"
	}
	return "(" + strconv.FormatInt(n, 10) + ")"
}

// asked holds Run to an answer.
func asked(t *testing.T, p api.Program, name string, args []int64, most int64, want api.Meaning) {
	t.Helper()
	if got := mean.Run(p, name, args, most); got != want {
		t.Errorf("%s(%v) with %d rounds: %v, not %v", name, args, most, got, want)
	}
}

// comes holds what f of a source comes to, and by P6.2 all that fewer rounds than it takes come to.
func comes(t *testing.T, src string, want api.Meaning, args ...int64) {
	t.Helper()
	p := read(t, src)
	if f := ranges.Check(p); f.E != api.OK {
		t.Fatalf("%.300s: may not be: %v", src, f)
	}
	failed := t.Failed()
	for _, most := range []int64{want.Rounds, want.Rounds + 1, want.Rounds + 2, 2*want.Rounds + 100, greatest} {
		asked(t, p, "f", args, most, want)
	}
	for most := range want.Rounds {
		if most < 20 || most > want.Rounds-20 {
			asked(t, p, "f", args, most, api.Meaning{E: api.ErrLong, Rounds: most})
		}
	}
	if t.Failed() && !failed {
		t.Logf("first of: %.300s", src)
	}
}

// value holds a source's f to a value and the rounds that it takes.
func value(t *testing.T, src string, v, rounds int64, args ...int64) {
	t.Helper()
	comes(t, src, api.Meaning{V: v, Rounds: rounds}, args...)
}

// trap holds a source's f to a trap and the rounds that have begun ahead of it.
func trap(t *testing.T, src string, e api.Errno, rounds int64, args ...int64) {
	t.Helper()
	comes(t, src, api.Meaning{E: e, Rounds: rounds}, args...)
}

// P6.1 and P6.2: the document's examples, and those of the whole that are of this layer.
func TestExamples(t *testing.T) {
	sum := "fn f(n in 0..10) { let s = 0; for i in 0..n { s = s + i; } return s; }"
	value(t, sum, 6, 5, 4)
	value(t, sum, 45, 11, 10)
	value(t, sum, 0, 1, 0)
	asked(t, read(t, sum), "f", []int64{4}, 4, api.Meaning{E: api.ErrLong, Rounds: 4})
	asked(t, read(t, sum), "f", []int64{11}, 100, api.Meaning{E: api.ErrRange})
	asked(t, read(t, sum), "f", nil, 100, api.Meaning{E: api.ErrRange})
	two := "fn g(a in 0..1) { return a; } fn f(a in 0..5) { return g(a); }"
	value(t, two, 1, 2, 1)
	trap(t, two, api.TrapArg, 1, 2)
	asked(t, read(t, two), "g", []int64{1}, 9, api.Meaning{V: 1, Rounds: 1})
	put := "fn f(a in 0..5) { let t[4]; t[a] = 1 / 0; return 0; }"
	trap(t, put, api.TrapDivide, 1, 3)
	trap(t, put, api.TrapIndex, 1, 4)
	value(t, "fn f() { for i in 0..2 { let t[1]; t[0] = t[0] + 5; if i == 1 { return t[0]; } } }", 10, 3)
	value(t, "fn f() { return 0 && 1 / 0; }", 0, 1)
	value(t, "fn f() { return 2 || 1 / 0; }", 1, 1)
	value(t, "fn f() { return 3 && 2; }", 1, 1)
	value(t, "fn f() { for i in 0..9 { if i == 3 { break; } } return 7; }", 7, 5)
	value(t, "fn f(a in 0..5) { let t[4]; return t[a]; }", 0, 1, 3)
	trap(t, "fn f(a in 0..5) { let t[4]; return t[a]; }", api.TrapIndex, 1, 4)
	trap(t, "fn f(a in 0..5) { return 10 / a; }", api.TrapDivide, 1, 0)
	value(t, "fn f(a in 0..5) { return 10 / a; }", 3, 1, 3)
	value(t, "widen 0, 9; fn f(n in 0..9) { for i in 0..n { for j in 0..i { if j == 3 { break; } } } return 7; }", 7, 1+9+0+1+2+3+4+4+4+4+4, 9)
}

// A program's faults, with the layer that tells them.
var faulty = []struct {
	src string
	e   api.Errno
}{
	{"widen 1, 1; fn f() { }", api.ErrOrder}, {"fn f() { return x; }", api.ErrName}, {"fn f() { let t[2]; return t; }", api.ErrKind}, {"fn f() { } fn f() { }", api.ErrTwice}, {"fn f() { break; }", api.ErrBreak}, {"fn f() { for i in 0..1 { i = 1; } }", api.ErrFixed},
	{"fn f() { f(); }", api.ErrName}, {"fn f(a in 1..0) { }", api.ErrEmpty}, {"fn f() { let t[0]; }", api.ErrArg}, {"fn f() { let t[1025]; }", api.ErrArg}, {"fn f() { switch 1 { case 1 { } case 1 { } } }", api.ErrTwice}, {"fn f() { for i in 0..4 / 2 { } }", api.ErrBound},
	{"fn f(a in 0..9) { } fn h() { f(); }", api.ErrCount}, {"fn f() { } fn h() { return 1; return x; }", api.ErrName}, {"fn f() { } fn h(a in 1..0) { }", api.ErrEmpty},
}

// P6.1: ErrArg, with whatever else is wrong.
func TestMost(t *testing.T) {
	good := read(t, "fn f(a in 0..9) { return a; }")
	for _, most := range []int64{-1, -2, -1 << 32, least} {
		want := api.Meaning{E: api.ErrArg}
		asked(t, good, "f", []int64{1}, most, want)
		asked(t, good, "f", []int64{10}, most, want)
		asked(t, good, "f", nil, most, want)
		asked(t, good, "g", nil, most, want)
		asked(t, api.Program{}, "", nil, most, want)
		for _, c := range faulty {
			asked(t, read(t, c.src), "f", nil, most, want)
			asked(t, read(t, c.src), "g", []int64{1}, most, want)
		}
	}
	asked(t, good, "f", []int64{1}, 0, api.Meaning{E: api.ErrLong})
	asked(t, good, "f", []int64{1}, 1, api.Meaning{V: 1, Rounds: 1})
	asked(t, good, "f", []int64{1}, greatest, api.Meaning{V: 1, Rounds: 1})
}

// P6.1: the error of ranges.Check, with a name that no function has, and with args that may not be, also where f itself is right.
func TestFaulty(t *testing.T) {
	for _, c := range faulty {
		p := read(t, c.src)
		for _, most := range []int64{0, 1, 100} {
			for _, args := range [][]int64{nil, {1}, {1, 2}, {greatest}} {
				asked(t, p, "f", args, most, api.Meaning{E: c.e})
				asked(t, p, "g", args, most, api.Meaning{E: c.e})
				asked(t, p, "", args, most, api.Meaning{E: c.e})
			}
		}
	}
	for _, p := range []api.Program{
		{Funcs: []api.Fn{{Name: "f", Body: []api.Stmt{{Kind: 0}}}}}, {Funcs: []api.Fn{{Name: "f", Body: []api.Stmt{{Kind: 11}}}}}, {Funcs: []api.Fn{{Name: "f", Body: []api.Stmt{{Kind: api.StmtReturn}}}}},
		{Funcs: []api.Fn{{Name: "f", Body: []api.Stmt{{Kind: api.StmtReturn, A: api.Expr{Kind: api.ExprNeg}}}}}}, {Funcs: []api.Fn{{Name: "f", Body: []api.Stmt{{Kind: api.StmtBreak, N: 1}}}}},
		{Funcs: []api.Fn{{Name: "f", Body: []api.Stmt{{Kind: api.StmtReturn, A: api.Expr{Kind: api.ExprChoose, Args: make([]api.Expr, 2)}}}}}},
	} {
		asked(t, p, "f", nil, 9, api.Meaning{E: api.ErrForm})
		asked(t, p, "g", nil, 9, api.Meaning{E: api.ErrForm})
	}
	asked(t, api.Program{Funcs: []api.Fn{{}}}, "", nil, 9, api.Meaning{E: api.ErrName})
	asked(t, api.Program{Funcs: make([]api.Fn, api.MaxFuncs+1)}, "", nil, 9, api.Meaning{E: api.ErrMany})
	asked(t, api.Program{Funcs: []api.Fn{{Name: "f", Params: []api.Param{{Name: "a", Lo: least}}}}}, "f", []int64{0}, 9, api.Meaning{E: api.ErrArg})
	asked(t, api.Program{Funcs: []api.Fn{{Name: "f", Body: []api.Stmt{{Kind: api.StmtReturn, A: api.Expr{Kind: api.ExprNumber, N: -1}}}}}}, "f", nil, 9, api.Meaning{E: api.ErrArg})
}

// P6.1: ErrName, ahead of what is wrong with args.
func TestNoFunction(t *testing.T) {
	p := read(t, "fn g(a in 0..1) { } fn f(b in 0..1) { let x = 1; g(1); } fn ff() { }")
	for _, name := range []string{"", "a", "b", "x", "h", "F", "f ", " f", "fff", "gf", "fn", "f\x00", "f()", "0", strings.Repeat("f", 17), "\xff"} {
		for _, args := range [][]int64{nil, {0}, {2}, {0, 0}} {
			for _, most := range []int64{0, 1, 9} {
				asked(t, p, name, args, most, api.Meaning{E: api.ErrName})
			}
		}
	}
	asked(t, api.Program{}, "f", nil, 9, api.Meaning{E: api.ErrName})
	asked(t, api.Program{}, "", nil, 9, api.Meaning{E: api.ErrName})
	asked(t, p, "ff", nil, 9, api.Meaning{Rounds: 1})
	asked(t, p, "g", []int64{1}, 9, api.Meaning{Rounds: 1})
	asked(t, p, "f", []int64{1}, 9, api.Meaning{Rounds: 2})
}

// P6.1: ErrRange, by the number of args and by each of them, at both ends of its range and one beyond, and ahead of any round.
func TestArgs(t *testing.T) {
	for _, c := range []struct{ lo, hi int64 }{{0, 0}, {0, 9}, {-5, -5}, {-5, 5}, {7, 8}, {-greatest, -greatest}, {greatest, greatest}, {-greatest, greatest}, {greatest - 1, greatest}, {0, greatest}, {-greatest, 0}} {
		head := "a in " + strconv.FormatInt(c.lo, 10) + ".." + strconv.FormatInt(c.hi, 10)
		p := read(t, "fn f("+head+") { return a; } fn g(b in 0..1, "+head+", c in 0..1) { return a; }")
		good, bad := api.OK, api.ErrRange
		ask := func(v int64, e api.Errno) {
			want := api.Meaning{E: e, V: v, Rounds: 1}
			if e != api.OK {
				want = api.Meaning{E: e}
				asked(t, p, "f", []int64{v}, 0, want)
			}
			asked(t, p, "f", []int64{v}, 9, want)
			asked(t, p, "g", []int64{0, v, 1}, 9, want)
		}
		ask(c.lo, good)
		ask(c.hi, good)
		ask(c.lo+int64(uint64(c.hi-c.lo)/2), good)
		ask(c.lo-1, bad)
		ask(least, bad)
		if c.hi < greatest {
			ask(c.hi+1, bad)
			ask(greatest, bad)
		}
	}
	for n := range api.MaxParams + 1 {
		var params []string
		var right []int64
		sum, want := "0", api.Meaning{Rounds: 1}
		for i := range n {
			params = append(params, "p"+strconv.Itoa(i)+" in 1.."+strconv.Itoa(i+1))
			right = append(right, int64(i+1))
			sum += " * 10 + p" + strconv.Itoa(i)
			if i == 0 {
				sum = "p0"
			}
			sum = "(" + sum + ")"
			want.V = want.V*10 + int64(i+1)
		}
		p := read(t, "fn f("+strings.Join(params, ", ")+") { return "+sum+"; }")
		asked(t, p, "f", right, 9, want)
		for many := range 12 {
			if many != n {
				asked(t, p, "f", []int64{1, 2, 3, 4, 5, 6, 7, 8, 9, 10, 11}[:many], 9, api.Meaning{E: api.ErrRange})
				asked(t, p, "f", make([]int64, many), 0, api.Meaning{E: api.ErrRange})
			}
		}
		for i := range right {
			for _, v := range []int64{0, int64(i + 2), -1, greatest, least} {
				wrong := append([]int64(nil), right...)
				wrong[i] = v
				asked(t, p, "f", wrong, 9, api.Meaning{E: api.ErrRange})
				asked(t, p, "f", wrong, 0, api.Meaning{E: api.ErrRange})
			}
		}
	}
}

// P6.1: only the function itself is asked for its args: another one's ranges and parameters don't matter; the first function and the last one may be called.
func TestWhichFunction(t *testing.T) {
	p := read(t, "fn a(x in 5..5, y in 0..0) { return x; } fn b() { return 2; } fn c(x in 0..9) { return x + b(); }")
	asked(t, p, "a", []int64{5, 0}, 9, api.Meaning{V: 5, Rounds: 1})
	asked(t, p, "b", nil, 9, api.Meaning{V: 2, Rounds: 1})
	asked(t, p, "c", []int64{9}, 9, api.Meaning{V: 11, Rounds: 2})
	asked(t, p, "c", []int64{5, 0}, 9, api.Meaning{E: api.ErrRange})
	asked(t, p, "a", []int64{9}, 9, api.Meaning{E: api.ErrRange})
}
