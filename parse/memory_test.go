package parse_test

import (
	"reflect"
	"slices"
	"strings"
	"testing"
	"unsafe"

	"soffit/api"
	"soffit/parse"
	"soffit/tree"
)

const whole = `widen -5, 0, 7;
fn g() { }
fn f(a in -1..1, b in 0..9, c in 0..9) {
  let x = -a + !b * (c - 7); let t[4]; x = f; t[x] = t[t[1]] || a && b;
  if a == b { break; return 1; g(); } else { g(a, g(b), c); break; break; }
  switch a ? b : c ? a : b { case 1 { break; } case -2 { } case 3 { return x; return y; } else { return 1 + 2 + 3 + 4; } }
  for i in a..b { for j in 0..i { x = x < i <= j; } break; }
}`

// room is a piece of memory.
type room struct{ from, to uintptr }

// rooms are all pieces of memory of an answer, spare room included.
func rooms(t *testing.T, v reflect.Value) []room {
	var found []room
	switch v.Kind() {
	case reflect.Struct:
		for i := range v.NumField() {
			found = append(found, rooms(t, v.Field(i))...)
		}
	case reflect.Slice:
		if v.Cap() == 0 {
			return nil
		}
		from := v.Pointer()
		found = append(found, room{from, from + uintptr(v.Cap())*v.Type().Elem().Size()})
		for i := range v.Cap() {
			x := v.Slice(0, v.Cap()).Index(i)
			if i < v.Len() {
				found = append(found, rooms(t, x)...)
			} else if !x.IsZero() {
				t.Errorf("spare room of %v holds something", v.Type())
			}
		}
	case reflect.String:
		if s := v.String(); s != "" {
			from := uintptr(unsafe.Pointer(unsafe.StringData(s)))
			found = append(found, room{from, from + uintptr(len(s))})
		}
	}
	return found
}

func apart(t *testing.T, what string, all []room) {
	t.Helper()
	slices.SortFunc(all, func(x, y room) int {
		if x.from < y.from {
			return -1
		}
		return 1
	})
	for i := 1; i < len(all); i++ {
		if all[i].from < all[i-1].to {
			t.Errorf("%s: two pieces of memory are one", what)
			return
		}
	}
}

// P3.3: no list and no text of an answer shares memory with another one, with the source or with another answer, at any depth.
func TestApart(t *testing.T) {
	deep := "fn f(){" + strings.Repeat("if g(a, t[-b]) { x = y ? z : w; } else { ", 100) + strings.Repeat("}", 101)
	for _, c := range []string{whole, deep, strings.Repeat("fn ab(cd in 0..1){ab(cd);}", 50)} {
		src := string([]byte(c))
		p, e, at := parse.Parse(src)
		q, _, _ := parse.Parse(src)
		if e != api.OK {
			t.Fatalf("%.50q: %d at %d", src, e, at)
		}
		got := slices.Concat(rooms(t, reflect.ValueOf(p)), rooms(t, reflect.ValueOf(q)), rooms(t, reflect.ValueOf(src)))
		if len(got) < 100 {
			t.Errorf("%.50q: %d pieces only", src, len(got))
		}
		apart(t, c[:20], got)
	}
}

// P3.3: the source is not changed, and an answer doesn't hang on its memory.
func TestSourceNotKept(t *testing.T) {
	bytes := []byte(whole)
	p, e, _ := parse.Parse(unsafe.String(&bytes[0], len(bytes)))
	if string(bytes) != whole || e != api.OK {
		t.Errorf("the source was changed, or %d", e)
	}
	for i := range bytes {
		bytes[i] = '&'
	}
	want, _, _ := parse.Parse(whole)
	if !tree.Same(p, want) {
		t.Error("the answer hangs on the source's memory")
	}
}

// P3.3 and R4: what is done with one answer shows in no other one, and a refused source leaves nothing behind.
func TestAnswersApart(t *testing.T) {
	p, _, _ := parse.Parse(whole)
	text, f := tree.Print(p)
	if f.E != api.OK {
		t.Fatal(f)
	}
	q, _, _ := parse.Parse(whole)
	scrub(reflect.ValueOf(&q).Elem())
	for _, src := range []string{"fn f(){return ((((1", "fn f(){return " + strings.Repeat("(", 300), whole + "}"} {
		if _, e, _ := parse.Parse(src); e == api.OK {
			t.Errorf("%.50q is read", src)
		}
	}
	r, e, at := parse.Parse(whole)
	if again, _ := tree.Print(p); again != text {
		t.Error("an answer was changed by way of another one")
	}
	if e != api.OK || at != 0 || !tree.Same(p, r) {
		t.Errorf("another answer, %d at %d", e, at)
	}
}

// scrub overwrites all that an answer has, spare room included.
func scrub(v reflect.Value) {
	switch v.Kind() {
	case reflect.Struct:
		for i := range v.NumField() {
			scrub(v.Field(i))
		}
	case reflect.Slice:
		for i := range v.Cap() {
			scrub(v.Slice(0, v.Cap()).Index(i))
		}
	case reflect.String:
		v.SetString("scrubbed")
	default:
		v.SetInt(77)
	}
}
