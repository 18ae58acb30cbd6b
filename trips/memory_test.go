package trips_test

import (
	"slices"
	"strconv"
	"testing"
	"unsafe"

	"soffit/api"
	"soffit/trips"
)

// copied is a module that shares nothing with another one, with spare room in all its lists.
func copied(m api.Module) api.Module {
	var c api.Module
	for _, f := range m.Funcs {
		f.Code = append(slices.Clone(f.Code), api.Ins{Op: api.OpJump}, api.Ins{Op: 20})[:len(f.Code)]
		f.Params = append(slices.Clone(f.Params), s(2, 1), s(-7, 7))[:len(f.Params)]
		c.Funcs = append(c.Funcs, f)
	}
	c.Funcs = append(c.Funcs, api.Func{Name: "spare", Regs: 1, Code: []api.Ins{{}}}, api.Func{})[:len(m.Funcs)]
	c.Thresholds = append(slices.Clone(m.Thresholds), 3, 2)[:len(m.Thresholds)]
	return c
}

// whole tells whether two modules are the same, what lies in their spare room too.
func whole(a, b api.Module) bool {
	sameFunc := func(f, g api.Func) bool {
		return f.Name == g.Name && f.Regs == g.Regs && f.Words == g.Words && slices.Equal(f.Params[:cap(f.Params)], g.Params[:cap(g.Params)]) && slices.Equal(f.Code[:cap(f.Code)], g.Code[:cap(g.Code)])
	}
	return len(a.Funcs) == len(b.Funcs) && slices.EqualFunc(a.Funcs[:cap(a.Funcs)], b.Funcs[:cap(b.Funcs)], sameFunc) && slices.Equal(a.Thresholds[:cap(a.Thresholds)], b.Thresholds[:cap(b.Thresholds)])
}

// many are modules of other tests, some of them none that may be or with loops that don't count, and some at random.
func many(seed uint64) []api.Module {
	k := newMaker(seed)
	list := []api.Module{
		{}, text("func f 2 0 -3 9", "count 1 0 2", "step 1 0", "ret 1"), text("func f 3 0 3 5", "count 1 0 4", "count 2 1 3", "step 2 1", "step 1 0", "ret 0"),
		text("func f 3 0 -9 99", "call 1 0 1", "count 2 0 3", "step 2 1", "ret 0", "func g 2 0 2 5", "count 1 0 2", "step 1 0", "ret 0"),
	}
	for _, m := range wrongModules() {
		list = append(list, m)
	}
	for _, c := range uncounted() {
		list = append(list, c.m)
	}
	for range 60 {
		m := k.counting()
		list = append(list, m, k.mixed(m), k.spoiled(m), k.wild())
	}
	return list
}

// answer is one of Of's.
type answer struct {
	trips []uint64
	e     api.Errno
}

func (a answer) same(b answer) bool { return a.e == b.e && slices.Equal(a.trips, b.trips) }

// ask tells all of a module, also of no functions.
func ask(m api.Module) []answer {
	var all []answer
	for fn := -1; fn <= len(m.Funcs); fn++ {
		l, e := trips.Of(m, fn)
		all = append(all, answer{l, e})
	}
	return all
}

func same(a, b []answer) bool { return slices.EqualFunc(a, b, answer.same) }

// R3: a module is not changed, spare room included, and what lies there shows in no answer.
func TestNotChanged(t *testing.T) {
	for _, m := range many(5) {
		one, two := copied(m), copied(m)
		if !same(ask(one), ask(m)) {
			t.Errorf("%s: what lies in spare room shows", short(m))
		}
		if !whole(one, two) {
			t.Errorf("%s was changed", short(m))
		}
	}
}

// R4: names do not matter, nor what other functions do and have, but for the ranges that they declare.
func TestOtherFields(t *testing.T) {
	for i, m := range many(6) {
		want := ask(m)
		if len(m.Funcs) > 0 && want[0].e != api.ErrArg {
			continue
		}
		c := copied(m)
		for fn := range c.Funcs {
			c.Funcs[fn].Name = "n" + strconv.Itoa((fn*7+i)%len(c.Funcs)) + "x" + strconv.Itoa(fn)
		}
		if !same(ask(c), want) {
			t.Errorf("%s: another name is told otherwise", short(m))
		}
		for fn := range m.Funcs {
			c := copied(m)
			for other := range c.Funcs {
				if other != fn {
					c.Funcs[other].Code, c.Funcs[other].Words, c.Funcs[other].Regs = []api.Ins{{Op: api.OpJump}}, 4000, 64
				}
			}
			if got := ask(c)[fn+1]; !got.same(want[fn+1]) {
				t.Errorf("%s, %d: what other functions do shows", short(m), fn)
			}
		}
	}
}

// P17.1: what a called function declares does matter, which words there are, and the thresholds.
func TestDeclared(t *testing.T) {
	m := text("func f 3 4 -9 99", "store 1 0 -1", "call 1 0 1", "count 2 0 4", "step 2 2", "ret 0", "func g 2 0 2 9", "ret 0")
	told(t, "by the words", m, 0, 4)
	m.Funcs[1].Params[0].Hi = 3
	told(t, "by the call", m, 0, 3)
	m.Funcs[0].Words, m.Funcs[1].Params[0].Hi = 6, 9
	told(t, "by more words", m, 0, 6)
	m.Funcs[0].Words = 0
	told(t, "by no words", m, 0, 0)
}

// R4: the same is told each time.
func TestEachTime(t *testing.T) {
	for _, m := range many(7) {
		want := ask(m)
		for range 3 {
			if !same(ask(m), want) {
				t.Errorf("%s: told otherwise", short(m))
			}
		}
	}
}

// reach is where a piece of memory begins and ends.
type reach struct{ from, to uintptr }

// reachOf is a list's memory, spare room included.
func reachOf[E any](l []E) reach {
	from := uintptr(unsafe.Pointer(unsafe.SliceData(l)))
	return reach{from, from + uintptr(cap(l))*unsafe.Sizeof(*new(E))}
}

// R3: an answer is new memory, with empty spare room: it shares none with the module, nor with another answer.
func TestApart(t *testing.T) {
	for _, m := range many(8) {
		m = copied(m)
		// All are there ahead of any place being looked at: memory that is free again may be used again.
		one, two := ask(m), ask(m)
		var all []reach
		for _, a := range append(one, two...) {
			all = append(all, reachOf(a.trips))
			for _, n := range a.trips[len(a.trips):cap(a.trips)] {
				if n != 0 {
					t.Errorf("%s: spare room holds %d", short(m), n)
				}
			}
		}
		for _, f := range m.Funcs[:cap(m.Funcs)] {
			all = append(all, reachOf(f.Code), reachOf(f.Params))
		}
		all = append(all, reachOf(m.Funcs), reachOf(m.Thresholds))
		all = slices.DeleteFunc(all, func(r reach) bool { return r.from == r.to })
		slices.SortFunc(all, func(a, b reach) int {
			if a.from < b.from {
				return -1
			}
			return 1
		})
		for i := 1; i < len(all); i++ {
			if all[i].from < all[i-1].to {
				t.Errorf("%s: two pieces of memory are one", short(m))
				break
			}
		}
		if !same(one, two) {
			t.Errorf("%s: told otherwise", short(m))
		}
	}
}

// R3, R4: what is told may be written over, and appended to; that shows in no other answer, nor in the module.
func TestWrittenOver(t *testing.T) {
	for _, m := range many(9) {
		m = copied(m)
		was, want := copied(m), ask(m)
		for _, a := range ask(m) {
			for i := range a.trips {
				a.trips[i] = 77
			}
			_ = append(a.trips, 78)
		}
		if !same(ask(m), want) || !whole(m, was) {
			t.Errorf("%s: what is written to an answer shows", short(m))
		}
	}
}

// R3, R4: a module that is written over when it was asked for shows in no answer; it is told of as what it is now.
func TestNotKept(t *testing.T) {
	for _, m := range many(10) {
		want := ask(m)
		c := copied(m)
		got := ask(c)
		for fn := range c.Funcs {
			for at := range c.Funcs[fn].Code {
				c.Funcs[fn].Code[at] = api.Ins{}
			}
			clear(c.Funcs[fn].Params)
		}
		clear(c.Thresholds)
		if !same(got, want) {
			t.Errorf("%s: what was handed in is kept", short(m))
		}
		if !same(ask(c), ask(copied(c))) {
			t.Errorf("%s: what it was before shows", short(m))
		}
	}
}
