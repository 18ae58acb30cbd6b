package ranges_test

import (
	"reflect"
	"strings"
	"testing"
	"unsafe"

	"soffit/api"
	"soffit/ranges"
)

const whole = `widen -5, 0, 7;
fn a() { }
fn b(p in -1..1) { for i in 0..p { for j in 1..2 * 3 { p = j; } } return a() + p; }
fn f(p in -1..1, q in 0..9) {
  let x = -p + !q * (b(7) - 7); let t[4]; x = b(a()); t[x] = t[t[1]] || p && q;
  if p == q { let y = x; y = a(); } else { let y[2]; b(y[a()]); }
  switch p ? q : x { case 1 { a(); } case -2 { } case 3 { return x; } else { return 1 + b(b(1)) + a(); } }
  for i in p..q { for j in 0..i * q - -p { x = x < i <= j; break; } for j in i..2 { for k in j..i { } } }
}`

// roomy is a copy whose lists all have spare room, with junk in it.
func roomy(v reflect.Value) reflect.Value {
	out := reflect.New(v.Type()).Elem()
	switch v.Kind() {
	case reflect.Struct:
		for i := range v.NumField() {
			out.Field(i).Set(roomy(v.Field(i)))
		}
	case reflect.Slice:
		out = reflect.MakeSlice(v.Type(), v.Len()+2, v.Len()+2)
		for i := range v.Len() {
			out.Index(i).Set(roomy(v.Index(i)))
		}
		for i := v.Len(); i < out.Len(); i++ {
			junk(out.Index(i))
		}
		out = out.Slice(0, v.Len())
	default:
		out.Set(v)
	}
	return out
}

func junk(v reflect.Value) {
	switch v.Kind() {
	case reflect.Struct:
		for i := range v.NumField() {
			junk(v.Field(i))
		}
	case reflect.String:
		v.SetString("junk")
	case reflect.Int, reflect.Int64:
		v.SetInt(77)
	}
}

// equal holds two values against each other, their spare room too.
func equal(v, w reflect.Value) bool {
	switch v.Kind() {
	case reflect.Struct:
		for i := range v.NumField() {
			if !equal(v.Field(i), w.Field(i)) {
				return false
			}
		}
		return true
	case reflect.Slice:
		if v.Len() != w.Len() || v.Cap() != w.Cap() {
			return false
		}
		for i := range v.Cap() {
			if !equal(v.Slice(0, v.Cap()).Index(i), w.Slice(0, w.Cap()).Index(i)) {
				return false
			}
		}
		return true
	}
	return v.Interface() == w.Interface()
}

func copyOf(p api.Program) api.Program { return roomy(reflect.ValueOf(p)).Interface().(api.Program) }

// P5.3: what is handed in is not changed, at any depth, its spare room included, and what lies there shows in no answer.
func TestNotChanged(t *testing.T) {
	deep := "fn a(n in 0..1) { for i in 0..n { } } fn f(n in 0..1, m in 0..1) { " + strings.Repeat("if a(1) { m = a(a(2)); } else { for i in 0..n { } ", 28) + strings.Repeat("}", 28) + " }"
	nested := "fn f(n in 0..1, m in 0..1, l in 0..1) { l = 1; for a in 0..n { for b in 0..3 { for c in 0..m { for d in 0..-1 { n = 1; } for d in 0..2 { } } for c in 0..1 { } } } return l; } fn g() { f(1, 2, 3); }"
	for _, src := range []string{
		whole, deep, nested, "", "fn f() { }", "fn f() { break; }", strings.Replace(whole, "break;", "t = 1;", 1), whole + "fn f() { }", strings.Replace(whole, "a() + p", "a(1) + p", 1), strings.Replace(whole, "-2", "3", 1),
		strings.Replace(whole, "t[4]", "t[0]", 1), strings.Replace(whole, "j..i", "j..x", 1), strings.Replace(whole, "0..9", "0..-9", 1), "fn f(n in 0..3) { for i in 0..n { } } fn g() { f(2); }",
	} {
		p := read(t, src)
		q, r := copyOf(p), copyOf(p)
		if got, want := ranges.Check(q), ranges.Check(p); got != want {
			t.Errorf("%.50s: %v, not %v", src, got, want)
		}
		for fn := -1; fn <= len(p.Funcs); fn++ {
			for _, params := range []bool{false, true} {
				if got, want := ranges.Straight(q, fn, params), ranges.Straight(p, fn, params); got != want {
					t.Errorf("%.50s: %d is straight: %v, not %v", src, fn, got, want)
				}
			}
		}
		if !equal(reflect.ValueOf(q), reflect.ValueOf(r)) {
			t.Errorf("%.50s: was changed", src)
		}
	}
	fine(t, whole)
	fine(t, deep)
	fine(t, nested)
}

// P5.3 and R4: nothing is kept of a program, whose memory may be used again, or of one asked about before.
func TestNotKept(t *testing.T) {
	bytes := []byte("nm")
	n, m := unsafe.String(&bytes[0], 1), unsafe.String(&bytes[1], 1)
	zero := api.Expr{Kind: api.ExprNumber}
	loop := api.Stmt{Kind: api.StmtFor, Name: "i", A: zero, B: api.Expr{Kind: api.ExprName, Name: m}}
	p := api.Program{Funcs: []api.Fn{{Name: "f", Params: []api.Param{{Name: n}, {Name: "b"}}, Body: []api.Stmt{{Kind: api.StmtLet, Name: "a", A: zero}, loop}}}}
	for _, c := range []struct {
		param, end byte
		e          api.Errno
	}{{'n', 'n', api.OK}, {'n', 'a', api.ErrBound}, {'n', 'b', api.OK}, {'m', 'm', api.OK}, {'m', 'n', api.ErrName}} {
		bytes[0], bytes[1] = c.param, c.end
		if got := ranges.Check(p); got.E != c.e {
			t.Errorf("%c, %c: %v", c.param, c.end, got)
		}
		if got := ranges.Straight(p, 0, true); got != (c.e == api.OK) || ranges.Straight(p, 0, false) {
			t.Errorf("%c, %c: %v", c.param, c.end, got)
		}
		if bytes[0] != c.param || bytes[1] != c.end {
			t.Errorf("%s", bytes)
		}
	}
	fault(t, "fn f(a in 0..1) { } fn g() { f(); }", api.ErrCount, 1, 1)
	fault(t, "fn f() { } fn g() { f(); }", api.OK, 0, 0)
}

// R3: lists without elements are the same, nil or not.
func TestEmptyLists(t *testing.T) {
	one := api.Expr{Kind: api.ExprNumber, N: 1, Args: []api.Expr{}}
	p := api.Program{Widen: []int64{}, Funcs: []api.Fn{
		{Name: "f", Params: []api.Param{}, Body: []api.Stmt{}},
		{Name: "g", Body: []api.Stmt{
			{Kind: api.StmtFor, Name: "i", A: one, B: one, Body: []api.Stmt{}, Else: []api.Stmt{}, Cases: []api.Case{}},
			{Kind: api.StmtCall, A: api.Expr{Kind: api.ExprCall, Name: "f", Args: []api.Expr{}}, Body: []api.Stmt{}},
			{Kind: api.StmtArray, Name: "t", N: 1, Body: []api.Stmt{}},
			{Kind: api.StmtSwitch, A: one, Cases: []api.Case{{Body: []api.Stmt{}}}, Else: []api.Stmt{}},
		}},
	}}
	if got := ranges.Check(p); got != (api.Fault{}) || ranges.Straight(p, 1, true) {
		t.Errorf("%v", got)
	}
	p.Funcs[1].Body = p.Funcs[1].Body[:3]
	if got := ranges.Check(p); got != (api.Fault{}) || !ranges.Straight(p, 1, false) {
		t.Errorf("%v", got)
	}
}
