package pack_test

import (
	"bytes"
	"math/rand/v2"
	"reflect"
	"slices"
	"strings"
	"testing"
	"unsafe"

	"soffit/api"
	"soffit/code"
	"soffit/pack"
)

// room is a piece of memory.
type room struct{ from, to uintptr }

// rooms are all pieces of memory of a value, spare room included, which must be empty.
func rooms(t *testing.T, v reflect.Value) []room {
	var found []room
	switch v.Kind() {
	case reflect.Struct:
		for i := range v.NumField() {
			found = append(found, rooms(t, v.Field(i))...)
		}
	case reflect.Slice:
		if v.Cap() == 0 {
			return nil
		}
		from := v.Pointer()
		found = append(found, room{from, from + uintptr(v.Cap())*v.Type().Elem().Size()})
		for i := range v.Cap() {
			x := v.Slice(0, v.Cap()).Index(i)
			if i < v.Len() {
				found = append(found, rooms(t, x)...)
			} else if !x.IsZero() {
				t.Errorf("spare room of %v holds something", v.Type())
			}
		}
	case reflect.String:
		// The runtime has one piece of memory for all texts of one byte, which nobody can write.
		if s := v.String(); len(s) > 1 {
			from := uintptr(unsafe.Pointer(unsafe.StringData(s)))
			found = append(found, room{from, from + uintptr(len(s))})
		}
	}
	return found
}

func apart(t *testing.T, what any, values ...any) {
	t.Helper()
	var all []room
	for _, v := range values {
		all = append(all, rooms(t, reflect.ValueOf(v))...)
	}
	slices.SortFunc(all, func(x, y room) int {
		if x.from < y.from {
			return -1
		}
		return 1
	})
	for i := 1; i < len(all); i++ {
		if all[i].from < all[i-1].to {
			t.Errorf("%.60v: two pieces of memory are one", what)
			return
		}
	}
}

// R3: no list and no text of a module that was read shares memory with another one, with the bytes or with another answer.
func TestApart(t *testing.T) {
	k := maker{rand.New(rand.NewPCG(11, 5))}
	list := [][]byte{base().bytes()}
	for range 200 {
		list = append(list, bytesOf(k.module()))
	}
	for _, b := range list {
		m, e, _ := pack.Decode(b)
		n, _, _ := pack.Decode(b)
		if e != api.OK {
			t.Fatalf("Decode(%x): %d", short(b), e)
		}
		apart(t, b, m, n, b)
	}
}

// R3: bytes are not changed, their spare room included, and what was read doesn't hang on their memory.
func TestBytesNotKept(t *testing.T) {
	was := base().bytes()
	want, _, _ := pack.Decode(was)
	for _, rest := range []string{"", "0", strings.Repeat("\xff", 100)} {
		b := append(slices.Clone(was), rest...)[:len(was)]
		m, e, _ := pack.Decode(b)
		if !bytes.Equal(b, was) || string(b[:len(was)+len(rest)][len(was):]) != rest || e != api.OK {
			t.Errorf("the bytes were changed, or %d", e)
		}
		for i := range b {
			b[i] = 0xaa
		}
		if !code.Same(m, want) {
			t.Errorf("what was read hangs on the bytes' memory: %v", m)
		}
		// What lies behind the end is not there.
		wrong(t, append(slices.Clone(was), rest...)[:len(was)-1], api.ErrShort, len(was)-1)
	}
}

// roomy is a copy whose lists all have spare room, with junk in it.
func roomy(m api.Module) api.Module {
	junk := api.Func{Name: "junk", Params: []api.Span{{Lo: 7, Hi: 7}}, Regs: 77, Words: 77, Code: []api.Ins{{Op: 77, A: 77}}}
	n := api.Module{Thresholds: append(slices.Clone(m.Thresholds), 77, 77)[:len(m.Thresholds)]}
	for _, f := range m.Funcs {
		f.Params = append(slices.Clone(f.Params), junk.Params...)[:len(f.Params)]
		f.Code = append(slices.Clone(f.Code), junk.Code...)[:len(f.Code)]
		n.Funcs = append(n.Funcs, f)
	}
	n.Funcs = append(n.Funcs, junk, junk)[:len(m.Funcs)]
	return n
}

// whole is a module with its spare room as elements.
func whole(m api.Module) api.Module {
	n := api.Module{Thresholds: slices.Clone(m.Thresholds[:cap(m.Thresholds)])}
	for _, f := range m.Funcs[:cap(m.Funcs)] {
		f.Params = slices.Clone(f.Params[:cap(f.Params)])
		f.Code = slices.Clone(f.Code[:cap(f.Code)])
		n.Funcs = append(n.Funcs, f)
	}
	return n
}

// R3: a module is not changed, its spare room included, and what lies there shows in no bytes; two answers share nothing.
func TestModuleNotChanged(t *testing.T) {
	k := maker{rand.New(rand.NewPCG(11, 6))}
	list := faulty()
	for range 200 {
		list = append(list, k.module())
	}
	for _, m := range list {
		n := roomy(m)
		was := whole(n)
		want, wantFault := pack.Encode(m)
		got, f := pack.Encode(n)
		if !bytes.Equal(got, want) || f != wantFault {
			t.Errorf("Encode(%.200v): %x, %v; not %x, %v", m, short(got), f, short(want), wantFault)
		}
		if !code.Same(was, whole(n)) {
			t.Errorf("%.200v was changed", m)
		}
		apart(t, m, got, want)
	}
}

// R4: bytes that were refused leave nothing behind, and what is done with one answer shows in no other one.
func TestAnswersApart(t *testing.T) {
	b := base().bytes()
	m, _, _ := pack.Decode(b)
	same, _, _ := pack.Decode(b)
	for i := range m.Thresholds {
		m.Thresholds[i] = 77
	}
	for _, f := range m.Funcs {
		clear(f.Code)
		clear(f.Params)
	}
	clear(m.Funcs)
	wrong(t, b[:len(b)-1], api.ErrShort, len(b)-1)
	is(t, same, b)
	got, _ := pack.Encode(same)
	clear(got)
	is(t, same, b)
}
