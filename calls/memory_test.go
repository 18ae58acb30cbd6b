package calls_test

import (
	"slices"
	"strconv"
	"testing"
	"unsafe"

	"soffit/api"
	"soffit/calls"
)

// many are modules of other tests, and some at random.
func many(seed uint64) []api.Module {
	k := newMaker(seed)
	list := []api.Module{
		{}, sample(), graph(to(1), to(0)), graph(nil, nil, nil), graph(to(3), nil, nil, nil), graph(nil, to(2), to(1, 2)),
		graph(make([][]int, 32)...), graph(make([][]int, 33)...), module(of(times(1025, call(0))...), of(times(1024, call(0))...)),
	}
	for range 60 {
		m := k.falling(1 + k.IntN(12))
		list = append(list, k.module(), m, k.closed(m), k.falling(32))
	}
	return list
}

// copied is a module that shares nothing with another one, with spare room everywhere in which calls stand.
func copied(m api.Module) api.Module {
	var c api.Module
	for _, f := range m.Funcs {
		f.Code = append(slices.Clone(f.Code), call(0), call(1), call(0))[:len(f.Code)]
		f.Params = append(slices.Clone(f.Params), api.Span{Lo: 2, Hi: 1})[:len(f.Params)]
		c.Funcs = append(c.Funcs, f)
	}
	c.Funcs = append(c.Funcs, of(call(0), call(int64(len(m.Funcs)))), of(call(1)))[:len(m.Funcs)]
	c.Thresholds = append(slices.Clone(m.Thresholds), 3, 2)[:len(m.Thresholds)]
	return c
}

// told is all that is told of a module.
type told struct {
	order []int
	fault api.Fault
	of    [][]int
}

func ask(m api.Module) told {
	var a told
	a.order, a.fault = calls.Order(m)
	for fn := -1; fn <= len(m.Funcs); fn++ {
		a.of = append(a.of, calls.Of(m, fn))
	}
	return a
}

func (a told) same(b told) bool {
	return a.fault == b.fault && slices.Equal(a.order, b.order) && slices.EqualFunc(a.of, b.of, slices.Equal[[]int])
}

// whole tells whether two modules are the same, what lies in their spare room too.
func whole(a, b api.Module) bool {
	sameFunc := func(f, g api.Func) bool {
		return f.Name == g.Name && f.Regs == g.Regs && f.Words == g.Words && slices.Equal(f.Params[:cap(f.Params)], g.Params[:cap(g.Params)]) && slices.Equal(f.Code[:cap(f.Code)], g.Code[:cap(g.Code)])
	}
	return len(a.Funcs) == len(b.Funcs) && slices.EqualFunc(a.Funcs[:cap(a.Funcs)], b.Funcs[:cap(b.Funcs)], sameFunc) && slices.Equal(a.Thresholds[:cap(a.Thresholds)], b.Thresholds[:cap(b.Thresholds)])
}

// R3: a module is not changed, spare room included, and what lies there shows in no answer.
func TestNotChanged(t *testing.T) {
	for _, m := range many(5) {
		one, two := copied(m), copied(m)
		if !ask(one).same(ask(m)) {
			t.Errorf("%s: what lies in spare room shows", codes(m))
		}
		if !whole(one, two) {
			t.Errorf("%s was changed", codes(m))
		}
	}
}

// The chapter: of a module the functions' Code alone is looked at, and of an instruction what leads on and what is called.
func TestOtherFields(t *testing.T) {
	k := newMaker(6)
	names := []string{"", "f", "g", "Not a name", "\xff"}
	for _, m := range many(7) {
		want := ask(m)
		for range 3 {
			c := copied(m)
			c.Thresholds = slices.Repeat([]int64{5}, k.IntN(30))
			for fn := range c.Funcs {
				f := &c.Funcs[fn]
				f.Name, f.Regs, f.Words = names[k.IntN(len(names))], []int{0, 1, 64, -1, least, most}[k.IntN(6)], []int{0, 1, 4096, -1, least, most}[k.IntN(6)]
				f.Params = slices.Repeat([]api.Span{{Lo: 2, Hi: 1}}, k.IntN(12))
				for at := range f.Code {
					x := &f.Code[at]
					x.A, x.B, x.C = k.IntN(100)-50, k.IntN(100)-50, most
					if !slices.Contains([]int{api.OpJump, api.OpStep, api.OpIf, api.OpUnless, api.OpCount, api.OpCall}, x.Op) {
						x.N = int64(k.IntN(9) - 2)
					}
				}
			}
			if !ask(c).same(want) {
				t.Errorf("%s: another module with this code is told otherwise", codes(m))
			}
		}
	}
	for i := range 20 {
		m := graph(to(1), nil, to(0), nil)
		for fn := range m.Funcs {
			m.Funcs[fn].Name = "f" + strconv.Itoa((fn+i)%4)
		}
		ordered(t, "names in another order", m, 1, 0, 2, 3)
	}
}

// R4: the same is told each time.
func TestEachTime(t *testing.T) {
	for _, m := range many(8) {
		want := ask(m)
		for range 12 {
			if got := ask(m); !got.same(want) {
				t.Errorf("%s: %v, then %v", codes(m), short(want), short(got))
			}
		}
	}
}

// reach is where a piece of memory begins and ends.
type reach struct{ from, to uintptr }

// reachOf is a list's memory, spare room included; an answer's spare room must be empty.
func reachOf[E any](l []E) reach {
	from := uintptr(unsafe.Pointer(unsafe.SliceData(l)))
	return reach{from, from + uintptr(cap(l))*unsafe.Sizeof(*new(E))}
}

func pieces(t *testing.T, a told) []reach {
	t.Helper()
	var all []reach
	for _, l := range append(a.of, a.order) {
		all = append(all, reachOf(l))
		for _, v := range l[len(l):cap(l)] {
			if v != 0 {
				t.Errorf("spare room holds %d", v)
			}
		}
	}
	return all
}

// R3: an answer is new memory: it shares none with the module, nor with another answer.
func TestApart(t *testing.T) {
	for _, m := range many(9) {
		m = copied(m)
		// All are there ahead of any place being looked at: memory that is free again may be used again.
		one, two := ask(m), ask(m)
		all := append(pieces(t, one), pieces(t, two)...)
		for _, f := range m.Funcs[:cap(m.Funcs)] {
			all = append(all, reachOf(f.Code), reachOf(f.Params))
		}
		all = append(all, reachOf(m.Funcs), reachOf(m.Thresholds))
		all = slices.DeleteFunc(all, func(r reach) bool { return r.from == r.to })
		slices.SortFunc(all, func(a, b reach) int {
			if a.from < b.from {
				return -1
			}
			return 1
		})
		for i := 1; i < len(all); i++ {
			if all[i].from < all[i-1].to {
				t.Errorf("%s: two pieces of memory are one", codes(m))
				break
			}
		}
		if !one.same(two) {
			t.Errorf("%s: told otherwise", codes(m))
		}
	}
}

// R3, R4: what is told may be written over, and appended to; that shows in no other answer, nor in the module.
func TestWrittenOver(t *testing.T) {
	for _, m := range many(10) {
		m = copied(m)
		was, want, got := copied(m), ask(m), ask(m)
		for _, l := range append(got.of, got.order) {
			for i := range l {
				l[i] = 77 - i
			}
			_ = append(l, 78, 79)
		}
		if !ask(m).same(want) || !whole(m, was) {
			t.Errorf("%s: what is written to an answer shows", codes(m))
		}
	}
}

// R3, R4: a module that is written over when it was asked for shows in no answer; it is told of as what it is now.
func TestNotKept(t *testing.T) {
	for _, m := range many(11) {
		want := ask(m)
		c := copied(m)
		got := ask(c)
		for fn := range c.Funcs {
			for at := range c.Funcs[fn].Code {
				c.Funcs[fn].Code[at] = jump(0)
			}
		}
		if !got.same(want) {
			t.Errorf("%s: the module is kept", codes(m))
		}
		if now, fresh := ask(c), ask(graph(make([][]int, len(m.Funcs))...)); !now.same(fresh) {
			t.Errorf("%s: what it was before shows", codes(m))
		}
	}
}
