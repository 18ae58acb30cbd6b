package cost_test

import (
	"slices"
	"strconv"
	"testing"
	"unsafe"

	"soffit/api"
	"soffit/code"
	"soffit/cost"
)

// copied is a module that shares nothing with another one, with spare room in all its lists.
func copied(m api.Module) api.Module {
	var c api.Module
	for _, f := range m.Funcs {
		f.Code = append(slices.Clone(f.Code), api.Ins{Op: api.OpJump}, api.Ins{Op: 20})[:len(f.Code)]
		f.Params = append(slices.Clone(f.Params), s(2, 1), s(-7, 7))[:len(f.Params)]
		c.Funcs = append(c.Funcs, f)
	}
	c.Funcs = append(c.Funcs, api.Func{Name: "spare", Regs: 1, Code: []api.Ins{{}}}, api.Func{})[:len(m.Funcs)]
	c.Thresholds = append(slices.Clone(m.Thresholds), 3, 2)[:len(m.Thresholds)]
	return c
}

// whole tells whether two modules are the same, what lies in their spare room too.
func whole(a, b api.Module) bool {
	sameFunc := func(f, g api.Func) bool {
		return f.Name == g.Name && f.Regs == g.Regs && f.Words == g.Words && slices.Equal(f.Params[:cap(f.Params)], g.Params[:cap(g.Params)]) && slices.Equal(f.Code[:cap(f.Code)], g.Code[:cap(g.Code)])
	}
	return len(a.Funcs) == len(b.Funcs) && slices.EqualFunc(a.Funcs[:cap(a.Funcs)], b.Funcs[:cap(b.Funcs)], sameFunc) && slices.Equal(a.Thresholds[:cap(a.Thresholds)], b.Thresholds[:cap(b.Thresholds)])
}

// many are modules of other tests, some of them none that may be or with faults, and some at random.
func many(seed uint64) []api.Module {
	k := newMaker(seed)
	list := []api.Module{
		{}, text("func f 2 0 -3 9", "count 1 0 2", "step 1 0", "ret 1"), text("func f 3 0 3 5", "count 1 0 4", "count 2 1 3", "step 2 1", "step 1 0", "ret 0"),
		text("func f 3 0 -9 99", "call 1 0 1", "count 2 0 3", "step 2 1", "ret 0", "func g 2 0 2 5", "count 1 0 2", "step 1 0", "ret 0"),
		text("func f 2 0", "set 1 9223372036854775807", "count 0 1 3", "step 0 1", "ret 0"), text("func f 1 0", "call 0 0 1", "ret 0", "func g 1 0", "call 0 0 0", "ret 0"),
	}
	for _, m := range wrongModules() {
		list = append(list, m)
	}
	for _, c := range uncounted() {
		list = append(list, c.m)
	}
	for i := range 60 {
		m := k.counting(i%2 == 0)
		list = append(list, m, k.mixed(m), k.spoiled(m), k.wild())
	}
	return list
}

// answer is one of Of's.
type answer struct {
	ceilings []api.Ceiling
	fault    api.Fault
}

func same(a, b answer) bool { return a.fault == b.fault && slices.Equal(a.ceilings, b.ceilings) }

func ask(m api.Module) answer {
	l, fault := cost.Of(m)
	return answer{l, fault}
}

// R3: a module is not changed, spare room included, and what lies there shows in no answer.
func TestNotChanged(t *testing.T) {
	for _, m := range many(5) {
		one, two := copied(m), copied(m)
		if !same(ask(one), ask(m)) {
			t.Errorf("%s: what lies in spare room shows", short(m))
		}
		if !whole(one, two) {
			t.Errorf("%s was changed", short(m))
		}
	}
}

// R4: names do not matter.
func TestNames(t *testing.T) {
	for i, m := range many(6) {
		if code.May(m).E != api.OK {
			continue
		}
		c := copied(m)
		for fn := range c.Funcs {
			c.Funcs[fn].Name = "n" + strconv.Itoa((fn*7+i)%len(c.Funcs)) + "x" + strconv.Itoa(fn)
		}
		if !same(ask(c), ask(m)) {
			t.Errorf("%s: another name is told otherwise", short(m))
		}
	}
}

// P18.1: more registers and words of a function are in its Words, one by one, and not in its Frames.
func TestOtherNumbers(t *testing.T) {
	for _, m := range many(11) {
		was, fault := cost.Of(m)
		if fault.E != api.OK || len(m.Funcs) == 0 {
			continue
		}
		c := copied(m)
		c.Funcs[0].Regs, c.Funcs[0].Words = 64, 4096
		l, fault := cost.Of(c)
		if fault.E != api.OK || l[0].Words-was[0].Words != int64(64-m.Funcs[0].Regs+4096-m.Funcs[0].Words) || l[0].Frames != was[0].Frames {
			t.Errorf("%s: %v, with more registers and words %v", short(m), was, l)
		}
	}
}

// R4: the same is told each time.
func TestEachTime(t *testing.T) {
	for _, m := range many(7) {
		want := ask(m)
		for range 3 {
			if !same(ask(m), want) {
				t.Errorf("%s: told otherwise", short(m))
			}
		}
	}
}

// reach is where a piece of memory begins and ends.
type reach struct{ from, to uintptr }

// reachOf is a list's memory, spare room included.
func reachOf[E any](l []E) reach {
	from := uintptr(unsafe.Pointer(unsafe.SliceData(l)))
	return reach{from, from + uintptr(cap(l))*unsafe.Sizeof(*new(E))}
}

// R3: an answer is new memory, with empty spare room: it shares none with the module, nor with another answer.
func TestApart(t *testing.T) {
	for _, m := range many(8) {
		m = copied(m)
		// All are there ahead of any place being looked at: memory that is free again may be used again.
		one, two := ask(m), ask(m)
		var all []reach
		for _, a := range []answer{one, two} {
			all = append(all, reachOf(a.ceilings))
			for _, c := range a.ceilings[len(a.ceilings):cap(a.ceilings)] {
				if c != (api.Ceiling{}) {
					t.Errorf("%s: spare room holds %v", short(m), c)
				}
			}
		}
		for _, f := range m.Funcs[:cap(m.Funcs)] {
			all = append(all, reachOf(f.Code), reachOf(f.Params))
		}
		all = append(all, reachOf(m.Funcs), reachOf(m.Thresholds))
		all = slices.DeleteFunc(all, func(r reach) bool { return r.from == r.to })
		slices.SortFunc(all, func(a, b reach) int {
			if a.from < b.from {
				return -1
			}
			return 1
		})
		for i := 1; i < len(all); i++ {
			if all[i].from < all[i-1].to {
				t.Errorf("%s: two pieces of memory are one", short(m))
				break
			}
		}
		if !same(one, two) {
			t.Errorf("%s: told otherwise", short(m))
		}
	}
}

// R3, R4: what is told may be written over, and appended to; that shows in no other answer, nor in the module.
func TestWrittenOver(t *testing.T) {
	for _, m := range many(9) {
		m = copied(m)
		was, want := copied(m), ask(m)
		a := ask(m)
		for i := range a.ceilings {
			a.ceilings[i] = api.Ceiling{Steps: 77, Frames: 7, Words: -1}
		}
		_ = append(a.ceilings, api.Ceiling{Steps: 78})
		if !same(ask(m), want) || !whole(m, was) {
			t.Errorf("%s: what is written to an answer shows", short(m))
		}
	}
}

// R3, R4: a module that is written over when it was asked for shows in no answer; it is told of as what it is now.
func TestNotKept(t *testing.T) {
	for _, m := range many(10) {
		want := ask(m)
		c := copied(m)
		got := ask(c)
		for fn := range c.Funcs {
			for at := range c.Funcs[fn].Code {
				c.Funcs[fn].Code[at] = api.Ins{}
			}
			clear(c.Funcs[fn].Params)
		}
		clear(c.Thresholds)
		if !same(got, want) {
			t.Errorf("%s: what was handed in is kept", short(m))
		}
		if !same(ask(c), ask(copied(c))) {
			t.Errorf("%s: what it was before shows", short(m))
		}
	}
}
