package mean_test

import (
	"reflect"
	"slices"
	"strings"
	"testing"
	"unsafe"

	"soffit/api"
	"soffit/mean"
)

const whole = `widen -5, 0, 7;
fn a() { let t[2]; t[1] = t[1] + 1; return t[1]; }
fn b(p in -9..99) { for i in 0..p { for j in 1..2 * 3 { p = p + j; } } return a() + p; }
fn f(p in -1..1, q in 0..9) {
  let x = -p + !q * (b(7) - 7); let t[4]; x = b(a()); t[q % 4] = t[t[1]] || p && q;
  if p == q { let y = x; y = a(); } else { let y[2]; b(y[a()]); }
  switch p ? q : x { case 1 { a(); } case -2 { } case 3 { return x; } else { x = 1 + b(b(1)) + a(); } }
  for i in p..q { for j in 0..i * q - -p { x = x < i <= j; if j == 3 { break; } } for j in i..2 { for k in j..i { } } }
  t[p] = 10 / q;
  return x + t[0];
}`

// roomy is a copy whose lists all have spare room, with junk in it.
func roomy(v reflect.Value) reflect.Value {
	out := reflect.New(v.Type()).Elem()
	switch v.Kind() {
	case reflect.Struct:
		for i := range v.NumField() {
			out.Field(i).Set(roomy(v.Field(i)))
		}
	case reflect.Slice:
		out = reflect.MakeSlice(v.Type(), v.Len()+2, v.Len()+2)
		for i := range v.Len() {
			out.Index(i).Set(roomy(v.Index(i)))
		}
		for i := v.Len(); i < out.Len(); i++ {
			junk(out.Index(i))
		}
		out = out.Slice(0, v.Len())
	default:
		out.Set(v)
	}
	return out
}

func junk(v reflect.Value) {
	switch v.Kind() {
	case reflect.Struct:
		for i := range v.NumField() {
			junk(v.Field(i))
		}
	case reflect.String:
		v.SetString("junk")
	case reflect.Int, reflect.Int64:
		v.SetInt(77)
	}
}

// equal holds two values against each other, their spare room too.
func equal(v, w reflect.Value) bool {
	switch v.Kind() {
	case reflect.Struct:
		for i := range v.NumField() {
			if !equal(v.Field(i), w.Field(i)) {
				return false
			}
		}
		return true
	case reflect.Slice:
		if v.Len() != w.Len() || v.Cap() != w.Cap() {
			return false
		}
		for i := range v.Cap() {
			if !equal(v.Slice(0, v.Cap()).Index(i), w.Slice(0, w.Cap()).Index(i)) {
				return false
			}
		}
		return true
	}
	return v.Interface() == w.Interface()
}

func copyOf(p api.Program) api.Program { return roomy(reflect.ValueOf(p)).Interface().(api.Program) }

// P6.3: what is handed in is not changed, the program at any depth and args, their spare room included, and what lies there shows in no answer.
func TestNotChanged(t *testing.T) {
	written := "fn g(a in 0..9) { a = 7; for i in 0..a { a = i; } return a; } fn f(p in -9..9, q in -9..9) { let x = p; p = 5; q = g(x); x = q + g(p); let t[2]; t[1] = x; return t[1] / q; }"
	seen := map[api.Errno]int{}
	for _, src := range []string{
		whole, written, "", "fn f(p in 0..1, q in 0..1) { }", "fn f() { break; }", whole + "fn f() { }", strings.Replace(whole, "-2", "3", 1), strings.Replace(whole, "0..9", "0..-9", 1), strings.Replace(whole, "10 / q", "10 / (q - q)", 1),
	} {
		p := read(t, src)
		q, r := copyOf(p), copyOf(p)
		for _, most := range []int64{-1, 0, 1, 20, 1000} {
			for _, args := range [][]int64{nil, {1}, {0, 3}, {1, 3}, {-1, 9}, {1, 0}, {0, 9}, {3, 3}, {1, 2, 3}} {
				given := append(slices.Clone(args), 55, 66)[:len(args)]
				for _, name := range []string{"f", "a", "b", "h"} {
					want := mean.Run(p, name, args, most)
					seen[want.E]++
					if got := mean.Run(q, name, given, most); got != want {
						t.Errorf("%.50s: %v, not %v", src, got, want)
					}
				}
				if !slices.Equal(given, args) || !slices.Equal(given[:len(args)+2][len(args):], []int64{55, 66}) {
					t.Errorf("%.50s: args were changed: %v", src, given[:len(args)+2])
				}
			}
		}
		if !equal(reflect.ValueOf(q), reflect.ValueOf(r)) {
			t.Errorf("%.50s: was changed", src)
		}
	}
	for _, e := range []api.Errno{api.OK, api.ErrArg, api.ErrBreak, api.ErrTwice, api.ErrEmpty, api.ErrName, api.ErrRange, api.TrapIndex, api.TrapDivide, api.ErrLong} {
		if seen[e] == 0 {
			t.Errorf("error %d comes never", e)
		}
	}
}

// P6.3 and R4: nothing is kept of a program or of args, whose memory may be used again.
func TestNotKept(t *testing.T) {
	bytes := []byte("nfg")
	n, f, call := unsafe.String(&bytes[0], 1), unsafe.String(&bytes[1], 1), unsafe.String(&bytes[2], 1)
	args := []int64{3}
	p := api.Program{Funcs: []api.Fn{
		{Name: "g", Body: []api.Stmt{{Kind: api.StmtReturn, A: api.Expr{Kind: api.ExprNumber, N: 40}}}},
		{Name: f, Params: []api.Param{{Name: "n", Hi: 9}}, Body: []api.Stmt{
			{Kind: api.StmtLet, Name: "m", A: api.Expr{Kind: api.ExprNumber, N: 7}},
			{Kind: api.StmtReturn, A: api.Expr{Kind: api.ExprAdd, Args: []api.Expr{{Kind: api.ExprName, Name: n}, {Kind: api.ExprCall, Name: call}}}},
		}},
	}}
	for _, c := range []struct {
		bytes string
		name  string
		arg   int64
		want  api.Meaning
	}{
		{"nfg", "f", 3, api.Meaning{V: 43, Rounds: 2}}, {"mfg", "f", 3, api.Meaning{V: 47, Rounds: 2}}, {"nfg", "f", 4, api.Meaning{V: 44, Rounds: 2}}, {"xfg", "f", 3, api.Meaning{E: api.ErrName}},
		{"nhg", "f", 3, api.Meaning{E: api.ErrName}}, {"nhg", "h", 3, api.Meaning{V: 43, Rounds: 2}}, {"ngg", "g", 3, api.Meaning{E: api.ErrTwice}}, {"nff", "f", 3, api.Meaning{E: api.ErrName}}, {"nfg", "f", 10, api.Meaning{E: api.ErrRange}}, {"mfg", "f", 3, api.Meaning{V: 47, Rounds: 2}},
	} {
		copy(bytes, c.bytes)
		args[0] = c.arg
		asked(t, p, c.name, args, 9, c.want)
		if string(bytes) != c.bytes || args[0] != c.arg {
			t.Errorf("%s, %v", bytes, args)
		}
	}
	p.Funcs[0].Body[0].A.N = 50
	asked(t, p, "f", []int64{1}, 9, api.Meaning{V: 57, Rounds: 2})
}

// P6.1: a list that stands at several places counts at each: two bodies that are one list in memory have arrays of their own.
func TestOneListTwice(t *testing.T) {
	zero, one := api.Expr{Kind: api.ExprNumber}, api.Expr{Kind: api.ExprNumber, N: 1}
	word := api.Expr{Kind: api.ExprIndex, Name: "t", Args: []api.Expr{zero}}
	body := []api.Stmt{
		{Kind: api.StmtArray, Name: "t", N: 1},
		{Kind: api.StmtStore, Name: "t", A: zero, B: api.Expr{Kind: api.ExprAdd, Args: []api.Expr{word, one}}},
		{Kind: api.StmtAssign, Name: "r", A: api.Expr{Kind: api.ExprAdd, Args: []api.Expr{{Kind: api.ExprMul, Args: []api.Expr{{Kind: api.ExprName, Name: "r"}, {Kind: api.ExprNumber, N: 10}}}, word}}},
	}
	i := api.Expr{Kind: api.ExprName, Name: "i"}
	choice := api.Stmt{Kind: api.StmtIf, A: i, Body: body, Else: body}
	loop := api.Stmt{Kind: api.StmtFor, Name: "i", A: zero, B: api.Expr{Kind: api.ExprNumber, N: 3}, Body: []api.Stmt{choice}}
	f := []api.Stmt{{Kind: api.StmtLet, Name: "r", A: zero}, loop, {Kind: api.StmtReturn, A: api.Expr{Kind: api.ExprName, Name: "r"}}}
	p := api.Program{Funcs: []api.Fn{{Name: "f", Body: f}, {Name: "g", Body: f}}}
	asked(t, p, "f", nil, 9, api.Meaning{V: 112, Rounds: 4})
	asked(t, p, "g", nil, 9, api.Meaning{V: 112, Rounds: 4})
	loop.Body = []api.Stmt{{Kind: api.StmtSwitch, A: i, Cases: []api.Case{{N: 0, Body: body}, {N: 1, Body: body}}, Else: body}}
	f[1] = loop
	asked(t, p, "f", nil, 9, api.Meaning{V: 111, Rounds: 4})
}

// R3: lists without elements are the same, nil or not.
func TestEmptyLists(t *testing.T) {
	one := api.Expr{Kind: api.ExprNumber, N: 1, Args: []api.Expr{}}
	p := api.Program{Widen: []int64{}, Funcs: []api.Fn{
		{Name: "g", Params: []api.Param{}, Body: []api.Stmt{}},
		{Name: "f", Body: []api.Stmt{
			{Kind: api.StmtFor, Name: "i", A: one, B: one, Body: []api.Stmt{}, Else: []api.Stmt{}, Cases: []api.Case{}},
			{Kind: api.StmtCall, A: api.Expr{Kind: api.ExprCall, Name: "g", Args: []api.Expr{}}, Body: []api.Stmt{}},
			{Kind: api.StmtIf, A: one, Body: []api.Stmt{}, Else: []api.Stmt{}},
			{Kind: api.StmtSwitch, A: one, Cases: []api.Case{{N: 1, Body: []api.Stmt{}}}, Else: []api.Stmt{}},
			{Kind: api.StmtReturn, A: one},
		}},
	}}
	for _, args := range [][]int64{nil, {}} {
		asked(t, p, "f", args, 9, api.Meaning{V: 1, Rounds: 2})
		asked(t, p, "g", args, 9, api.Meaning{Rounds: 1})
	}
}
