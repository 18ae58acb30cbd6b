package tree_test

import (
	"reflect"
	"testing"
	"unsafe"

	"soffit/api"
	"soffit/tree"
)

// roomy is a copy whose lists all have spare room, with junk in it.
func roomy(v reflect.Value) reflect.Value {
	out := reflect.New(v.Type()).Elem()
	switch v.Kind() {
	case reflect.Struct:
		for i := range v.NumField() {
			out.Field(i).Set(roomy(v.Field(i)))
		}
	case reflect.Slice:
		out = reflect.MakeSlice(v.Type(), v.Len()+2, v.Len()+2)
		for i := range v.Len() {
			out.Index(i).Set(roomy(v.Index(i)))
		}
		for i := v.Len(); i < out.Len(); i++ {
			junk(out.Index(i))
		}
		out = out.Slice(0, v.Len())
	default:
		out.Set(v)
	}
	return out
}

func junk(v reflect.Value) {
	switch v.Kind() {
	case reflect.Struct:
		for i := range v.NumField() {
			junk(v.Field(i))
		}
	case reflect.String:
		v.SetString("junk")
	case reflect.Int, reflect.Int64:
		v.SetInt(77)
	}
}

// equal holds two values against each other, their spare room too.
func equal(v, w reflect.Value) bool {
	switch v.Kind() {
	case reflect.Struct:
		for i := range v.NumField() {
			if !equal(v.Field(i), w.Field(i)) {
				return false
			}
		}
		return true
	case reflect.Slice:
		if v.Len() != w.Len() || v.Cap() != w.Cap() {
			return false
		}
		for i := range v.Cap() {
			if !equal(v.Slice(0, v.Cap()).Index(i), w.Slice(0, w.Cap()).Index(i)) {
				return false
			}
		}
		return true
	}
	return v.Interface() == w.Interface()
}

func copyOf(p api.Program) api.Program { return roomy(reflect.ValueOf(p)).Interface().(api.Program) }

// P2.5: what is handed in is not changed, its spare room included, and what lies there shows in no answer.
func TestNotChanged(t *testing.T) {
	for _, p := range []api.Program{sum(), whole(), full(), base(), one(nested(31, stops(2000)...)), one(stops(5000)...), {}} {
		q, r := copyOf(p), copyOf(p)
		fault, text, n := tree.Check(p), "", tree.Nodes(p)
		text, _ = tree.Print(p)
		if got := tree.Check(q); got != fault {
			t.Errorf("Check: %v, not %v", got, fault)
		}
		if s, _ := tree.Print(q); s != text {
			t.Errorf("Print: %q, not %q", s, text)
		}
		if got := tree.Nodes(q); got != n {
			t.Errorf("Nodes: %d, not %d", got, n)
		}
		if !tree.Same(q, p) || !tree.Same(p, q) {
			t.Error("told apart by what lies in spare room")
		}
		if !equal(reflect.ValueOf(q), reflect.ValueOf(r)) {
			t.Error("a program was changed")
		}
	}
}

// P2.5: the text shares no memory with the names: whoever made these out of bytes may go on using them.
func TestTextApart(t *testing.T) {
	bytes := []byte("f")
	p := api.Program{Funcs: []api.Fn{{Name: unsafe.String(&bytes[0], 1), Body: []api.Stmt{{Kind: api.StmtCall, A: call(unsafe.String(&bytes[0], 1))}}}}}
	s, _ := tree.Print(p)
	bytes[0] = 'x'
	if want := "fn f() {\n  f();\n}\n"; s != want {
		t.Errorf("%q, not %q", s, want)
	}
}
