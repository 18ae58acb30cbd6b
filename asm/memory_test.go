package asm_test

import (
	"math/rand/v2"
	"reflect"
	"slices"
	"strings"
	"testing"
	"unsafe"

	"soffit/api"
	"soffit/asm"
	"soffit/code"
)

// room is a piece of memory.
type room struct{ from, to uintptr }

// rooms are all pieces of memory of a value, spare room included, which must be empty.
func rooms(t *testing.T, v reflect.Value) []room {
	var found []room
	switch v.Kind() {
	case reflect.Struct:
		for i := range v.NumField() {
			found = append(found, rooms(t, v.Field(i))...)
		}
	case reflect.Slice:
		if v.Cap() == 0 {
			return nil
		}
		from := v.Pointer()
		found = append(found, room{from, from + uintptr(v.Cap())*v.Type().Elem().Size()})
		for i := range v.Cap() {
			x := v.Slice(0, v.Cap()).Index(i)
			if i < v.Len() {
				found = append(found, rooms(t, x)...)
			} else if !x.IsZero() {
				t.Errorf("spare room of %v holds something", v.Type())
			}
		}
	case reflect.String:
		if s := v.String(); s != "" {
			from := uintptr(unsafe.Pointer(unsafe.StringData(s)))
			found = append(found, room{from, from + uintptr(len(s))})
		}
	}
	return found
}

func apart(t *testing.T, what string, all []room) {
	t.Helper()
	slices.SortFunc(all, func(x, y room) int {
		if x.from < y.from {
			return -1
		}
		return 1
	})
	for i := 1; i < len(all); i++ {
		if all[i].from < all[i-1].to {
			t.Errorf("%.60q: two pieces of memory are one", what)
			return
		}
	}
}

// R3: no list and no text of a module that was read shares memory with another one, with the text or with another answer.
func TestApart(t *testing.T) {
	k := maker{rand.New(rand.NewPCG(10, 3))}
	texts := []string{base().text()}
	for range 200 {
		s, _ := asm.Print(k.module())
		texts = append(texts, s)
	}
	for _, c := range texts {
		s := string([]byte(c))
		m, e, _, _ := asm.Parse(s)
		n, _, _, _ := asm.Parse(s)
		if e != api.OK {
			t.Fatalf("Parse(%.60q): %d", s, e)
		}
		apart(t, c, slices.Concat(rooms(t, reflect.ValueOf(m)), rooms(t, reflect.ValueOf(n)), rooms(t, reflect.ValueOf(s))))
	}
}

// R3: a text is not changed, and what was read doesn't hang on its memory.
func TestTextNotKept(t *testing.T) {
	was := base().text()
	bytes := []byte(was)
	m, e, _, _ := asm.Parse(unsafe.String(&bytes[0], len(bytes)))
	if string(bytes) != was || e != api.OK {
		t.Errorf("the text was changed, or %d", e)
	}
	for i := range bytes {
		bytes[i] = '&'
	}
	if s, f := asm.Print(m); s != was || f != (api.Fault{}) {
		t.Errorf("what was read hangs on the text's memory: %v, %.200q", f, s)
	}
}

// roomy is a copy whose lists all have spare room, with junk in it.
func roomy(m api.Module) api.Module {
	junk := api.Func{Name: "junk", Params: []api.Span{{Lo: 7, Hi: 7}}, Regs: 77, Words: 77, Code: []api.Ins{{Op: 77, A: 77}}}
	n := api.Module{Thresholds: append(slices.Clone(m.Thresholds), 77, 77)[:len(m.Thresholds)]}
	for _, f := range m.Funcs {
		f.Params = append(slices.Clone(f.Params), junk.Params...)[:len(f.Params)]
		f.Code = append(slices.Clone(f.Code), junk.Code...)[:len(f.Code)]
		n.Funcs = append(n.Funcs, f)
	}
	n.Funcs = append(n.Funcs, junk, junk)[:len(m.Funcs)]
	return n
}

// whole is a module with its spare room as elements.
func whole(m api.Module) api.Module {
	n := api.Module{Thresholds: slices.Clone(m.Thresholds[:cap(m.Thresholds)])}
	for _, f := range m.Funcs[:cap(m.Funcs)] {
		f.Params = slices.Clone(f.Params[:cap(f.Params)])
		f.Code = slices.Clone(f.Code[:cap(f.Code)])
		n.Funcs = append(n.Funcs, f)
	}
	return n
}

// R3: a module is not changed, its spare room included, and what lies there shows in no text; nor does a text share a Name's memory.
func TestModuleNotChanged(t *testing.T) {
	k := maker{rand.New(rand.NewPCG(10, 4))}
	list := faulty()
	for range 200 {
		list = append(list, k.module())
	}
	for _, m := range list {
		n := roomy(m)
		was := whole(n)
		want, wantFault := asm.Print(m)
		got, f := asm.Print(n)
		if got != want || f != wantFault {
			t.Errorf("Print(%.200v): %.200q, %v; not %.200q, %v", m, got, f, want, wantFault)
		}
		if !code.Same(was, whole(n)) {
			t.Errorf("%.200v was changed", m)
		}
		apart(t, got, slices.Concat(rooms(t, reflect.ValueOf(got)), rooms(t, reflect.ValueOf(want))))
	}
	name := strings.Clone("abc")
	s, _ := asm.Print(module(fn(name, 0, 1)))
	apart(t, s, slices.Concat(rooms(t, reflect.ValueOf(s)), rooms(t, reflect.ValueOf(name))))
}

// R4: a text that was refused leaves nothing behind, and what is done with one answer shows in no other one.
func TestAnswersApart(t *testing.T) {
	s := base().text()
	m, _, _, _ := asm.Parse(s)
	for i := range m.Thresholds {
		m.Thresholds[i] = 77
	}
	for _, f := range m.Funcs {
		clear(f.Code)
		clear(f.Params)
	}
	clear(m.Funcs)
	wrong(t, s+"x", api.ErrOp, strings.Count(s, "\n")+1, 0)
	wrong(t, s[:len(s)-3], api.ErrShort, strings.Count(s, "\n"), len("step 11 0")-2)
	back(t, s)
}

// R1: long texts of one kind of line, word or byte are read to their end.
func TestLong(t *testing.T) {
	const n = 300000
	wrong(t, strings.Repeat("\n", n), api.ErrForm, 1, 0)
	wrong(t, strings.Repeat(" ", n), api.ErrForm, 1, 0)
	wrong(t, "widen"+strings.Repeat(" ", n), api.ErrNumber, 1, 6)
	wrong(t, "widen"+strings.Repeat(" 1", n)+"\n", api.ErrMany, 1, 0)
	wrong(t, "widen"+strings.Repeat(" 1", n), api.ErrShort, 1, 5+2*n)
	wrong(t, "widen "+strings.Repeat("1", n)+"\n", api.ErrNumber, 1, 6)
	wrong(t, "widen\nfunc f 1 0"+strings.Repeat(" 1", n+1)+"\n", api.ErrShort, 2, 12+2*n)
	wrong(t, "widen\nfunc f 1 0"+strings.Repeat(" 1", n)+"\n", api.ErrMany, 2, 0)
	wrong(t, "widen\n"+strings.Repeat("func f 1 0\n", n), api.ErrMany, 34, 0)
	wrong(t, "widen\n"+strings.Repeat("func f 1 0\n", n)+"nop", api.ErrOp, n+2, 0)
	wrong(t, "widen\nfunc f 1 0\n"+strings.Repeat("ret 0\n", n), api.ErrCode, 2, 0)
	wrong(t, "widen\nfunc f 1 0\n"+strings.Repeat("ret 0\n", n)+"ret", api.ErrShort, n+3, 3)
	wrong(t, "widen\nfunc f 1 0\nret 0"+strings.Repeat(" 0", n)+"\n", api.ErrRest, 3, 5)
}
