package code_test

import (
	"reflect"
	"slices"
	"testing"

	"soffit/api"
	"soffit/code"
)

// roomy is a copy whose lists all have spare room, with junk in it.
func roomy(v reflect.Value) reflect.Value {
	out := reflect.New(v.Type()).Elem()
	switch v.Kind() {
	case reflect.Struct:
		for i := range v.NumField() {
			out.Field(i).Set(roomy(v.Field(i)))
		}
	case reflect.Slice:
		out = reflect.MakeSlice(v.Type(), v.Len()+2, v.Len()+2)
		for i := range v.Len() {
			out.Index(i).Set(roomy(v.Index(i)))
		}
		for i := v.Len(); i < out.Len(); i++ {
			junk(out.Index(i))
		}
		out = out.Slice(0, v.Len())
	default:
		out.Set(v)
	}
	return out
}

func junk(v reflect.Value) {
	switch v.Kind() {
	case reflect.Struct:
		for i := range v.NumField() {
			junk(v.Field(i))
		}
	case reflect.String:
		v.SetString("junk")
	case reflect.Int, reflect.Int64:
		v.SetInt(77)
	}
}

// equal holds two values against each other, their spare room too.
func equal(v, w reflect.Value) bool {
	switch v.Kind() {
	case reflect.Struct:
		for i := range v.NumField() {
			if !equal(v.Field(i), w.Field(i)) {
				return false
			}
		}
		return true
	case reflect.Slice:
		if v.Len() != w.Len() || v.Cap() != w.Cap() {
			return false
		}
		for i := range v.Cap() {
			if !equal(v.Slice(0, v.Cap()).Index(i), w.Slice(0, w.Cap()).Index(i)) {
				return false
			}
		}
		return true
	}
	return v.Interface() == w.Interface()
}

func copyOf(m api.Module) api.Module { return roomy(reflect.ValueOf(m)).Interface().(api.Module) }

// R3: what is handed in is not changed, its spare room included, and what lies there shows in no answer.
func TestNotChanged(t *testing.T) {
	list := []api.Module{base(), full(), {}, module(named(33)...), module(api.Func{Name: "f", Regs: 1, Code: rets(1025)})}
	for _, s := range slips() {
		m := base()
		s.do(&m)
		list = append(list, m)
	}
	for _, m := range list {
		a, b := copyOf(m), copyOf(m)
		if got, want := code.May(a), code.May(m); got != want {
			t.Errorf("May: %v, not %v", got, want)
		}
		for _, name := range []string{"a", "b", "junk", ""} {
			if got, want := code.Find(a, name), code.Find(m, name); got != want {
				t.Errorf("Find of %q: %d, not %d", name, got, want)
			}
		}
		if !code.Same(a, m) || !code.Same(m, a) {
			t.Error("told apart by what lies in spare room")
		}
		if !equal(reflect.ValueOf(a), reflect.ValueOf(b)) {
			t.Error("a module was changed")
		}
	}
}

// R3, R4: an iterator tells what its instruction was when it was asked for.
func TestReadsApart(t *testing.T) {
	list := []api.Ins{{Op: api.OpAdd, B: 2, C: 3}}
	seq := code.Reads(list[0], 0)
	list[0] = api.Ins{Op: api.OpCall, B: 9}
	if l := slices.Collect(seq); !slices.Equal(l, []int{2, 3}) {
		t.Errorf("%v, not 2 3", l)
	}
}
