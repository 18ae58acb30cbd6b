package names_test

import (
	"reflect"
	"slices"
	"strings"
	"testing"
	"unsafe"

	"soffit/api"
	"soffit/names"
)

const whole = `widen -5, 0, 7;
fn a() { }
fn b(p in -1..1) { return a() + p; }
fn f(p in -1..1, q in 0..9) {
  let x = -p + !q * (b(7) - 7); let t[4]; x = b(a()); t[x] = t[t[1]] || p && q;
  if p == q { let y = x; y = a(); } else { let y[2]; b(p, a(q), y[0]); }
  switch p ? q : x { case 1 { a(); } case -2 { } case 3 { return x; } else { return 1 + b() + a(); } }
  for i in p..q { for j in 0..i { x = x < i <= j; break; } break; }
}`

// roomy is a copy whose lists all have spare room, with junk in it.
func roomy(v reflect.Value) reflect.Value {
	out := reflect.New(v.Type()).Elem()
	switch v.Kind() {
	case reflect.Struct:
		for i := range v.NumField() {
			out.Field(i).Set(roomy(v.Field(i)))
		}
	case reflect.Slice:
		out = reflect.MakeSlice(v.Type(), v.Len()+2, v.Len()+2)
		for i := range v.Len() {
			out.Index(i).Set(roomy(v.Index(i)))
		}
		for i := v.Len(); i < out.Len(); i++ {
			junk(out.Index(i))
		}
		out = out.Slice(0, v.Len())
	default:
		out.Set(v)
	}
	return out
}

func junk(v reflect.Value) {
	switch v.Kind() {
	case reflect.Struct:
		for i := range v.NumField() {
			junk(v.Field(i))
		}
	case reflect.String:
		v.SetString("junk")
	case reflect.Int, reflect.Int64:
		v.SetInt(77)
	}
}

// equal holds two values against each other, their spare room too.
func equal(v, w reflect.Value) bool {
	switch v.Kind() {
	case reflect.Struct:
		for i := range v.NumField() {
			if !equal(v.Field(i), w.Field(i)) {
				return false
			}
		}
		return true
	case reflect.Slice:
		if v.Len() != w.Len() || v.Cap() != w.Cap() {
			return false
		}
		for i := range v.Cap() {
			if !equal(v.Slice(0, v.Cap()).Index(i), w.Slice(0, w.Cap()).Index(i)) {
				return false
			}
		}
		return true
	}
	return v.Interface() == w.Interface()
}

func copyOf(p api.Program) api.Program { return roomy(reflect.ValueOf(p)).Interface().(api.Program) }

// P4.3: what is handed in is not changed, at any depth, its spare room included, and what lies there shows in no answer.
func TestNotChanged(t *testing.T) {
	deep := "fn a() { } fn f() { " + strings.Repeat("if a() { let x = a(1, a(2)); } else { ", 28) + strings.Repeat("}", 28) + " }"
	for _, src := range []string{whole, deep, "", "fn f() { }", "fn f() { break; }", "fn f() { z(1, y); }", strings.Replace(whole, "break;", "t = 1;", 1), whole + "fn f() { }"} {
		p := read(t, src)
		q, r := copyOf(p), copyOf(p)
		if got, want := names.Check(q), names.Check(p); got != want {
			t.Errorf("%.50s: %v, not %v", src, got, want)
		}
		for fn := -1; fn <= len(p.Funcs); fn++ {
			if got, want := names.Calls(q, fn), names.Calls(p, fn); !slices.Equal(got, want) {
				t.Errorf("%.50s: %d calls %v, not %v", src, fn, got, want)
			}
		}
		if !equal(reflect.ValueOf(q), reflect.ValueOf(r)) {
			t.Errorf("%.50s: was changed", src)
		}
	}
}

// P4.3 and R4: an answer is its caller's: what is done with it, spare room included, shows in no other one.
func TestAnswersApart(t *testing.T) {
	p := read(t, whole)
	first, second := names.Calls(p, 2), names.Calls(p, 2)
	other := names.Calls(p, 1)
	for i := range first[:cap(first)] {
		first[:cap(first)][i] = 99
	}
	again := names.Calls(p, 2)
	for _, l := range [][]int{second, again} {
		if !slices.Equal(l, []int{0, 1}) {
			t.Errorf("%v", l)
		}
		for i := len(l); i < cap(l); i++ {
			if l[:cap(l)][i] != 0 {
				t.Errorf("spare room holds %d", l[:cap(l)][i])
			}
		}
	}
	if !slices.Equal(other, []int{0}) {
		t.Errorf("%v", other)
	}
}

// P4.3: nothing is kept of the names of a program, whose memory may be used again, or of a program asked about before.
func TestNotKept(t *testing.T) {
	bytes := []byte("fg")
	f, g := unsafe.String(&bytes[0], 1), unsafe.String(&bytes[1], 1)
	call := api.Stmt{Kind: api.StmtCall, A: api.Expr{Kind: api.ExprCall, Name: f}}
	p := api.Program{Funcs: []api.Fn{{Name: f}, {Name: g, Body: []api.Stmt{call}}}}
	list := names.Calls(p, 1)
	if got := names.Check(p); got != (api.Fault{}) || !slices.Equal(list, []int{0}) {
		t.Errorf("%v, %v", got, list)
	}
	bytes[1] = 'f'
	if got := names.Check(p); got != (api.Fault{E: api.ErrTwice, Func: 1}) {
		t.Errorf("%v", got)
	}
	bytes[0], bytes[1] = 'a', 'b'
	if got := names.Check(p); got != (api.Fault{}) || !slices.Equal(list, []int{0}) || string(bytes) != "ab" {
		t.Errorf("%v, %v, %s", got, list, bytes)
	}
	if got := names.Check(read(t, "fn g() { f(); }")); got != (api.Fault{E: api.ErrName, At: 1}) {
		t.Errorf("%v", got)
	}
}

// R3: lists without elements are the same, nil or not.
func TestEmptyLists(t *testing.T) {
	one := api.Expr{Kind: api.ExprNumber, N: 1, Args: []api.Expr{}}
	p := api.Program{Widen: []int64{}, Funcs: []api.Fn{
		{Name: "f", Params: []api.Param{}, Body: []api.Stmt{}},
		{Name: "g", Body: []api.Stmt{
			{Kind: api.StmtIf, A: one, Body: []api.Stmt{}, Else: []api.Stmt{}, Cases: []api.Case{}},
			{Kind: api.StmtSwitch, A: one, Cases: []api.Case{{Body: []api.Stmt{}}}, Else: []api.Stmt{}},
			{Kind: api.StmtCall, A: api.Expr{Kind: api.ExprCall, Name: "f", Args: []api.Expr{}}, Body: []api.Stmt{}},
			{Kind: api.StmtBreak, Body: []api.Stmt{}},
		}},
	}}
	if got := names.Check(p); got != (api.Fault{E: api.ErrBreak, Func: 1, At: 4}) {
		t.Errorf("%v", got)
	}
	p.Funcs[1].Body = p.Funcs[1].Body[:3]
	if got := names.Check(p); got != (api.Fault{}) || !slices.Equal(names.Calls(p, 1), []int{0}) {
		t.Errorf("%v, %v", got, names.Calls(p, 1))
	}
}
