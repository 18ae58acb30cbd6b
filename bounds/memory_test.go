package bounds_test

import (
	"slices"
	"strconv"
	"testing"
	"unsafe"

	"soffit/api"
	"soffit/bounds"
)

// many are modules of other tests, some of them none that may be, and some at random.
func many(seed uint64) []api.Module {
	k := newMaker(seed)
	list := []api.Module{
		{}, text("func f 2 0", "set 0 5", "add 1 0 0", "ret 1"), text("func f 2 0 -3 9", "count 1 0 2", "step 1 0", "ret 1"), text("widen 8", "func f 2 0 -3 9", "count 1 0 2", "step 1 0", "ret 1"),
		text("func f 1 0 5 9", "check 0 4", "ret 0"), text("func f 1 0", "step 0 0"), text("func f 3 0", "jump 2", "ret 1", "call 0 1 1", "jump 0", "func g 2 1 0 5 -1 1", "load 0 1 0", "store 1 1 0", "ret 0"),
		module(nil, serial()),
	}
	for _, m := range wrongModules() {
		list = append(list, m)
	}
	for range 60 {
		list = append(list, k.wild(), k.counting())
	}
	return list
}

// copied is a module that shares nothing with another one, with spare room in all its lists.
func copied(m api.Module) api.Module {
	var c api.Module
	for _, f := range m.Funcs {
		f.Code = append(slices.Clone(f.Code), api.Ins{Op: api.OpJump}, api.Ins{Op: 20})[:len(f.Code)]
		f.Params = append(slices.Clone(f.Params), s(2, 1), s(-7, 7))[:len(f.Params)]
		c.Funcs = append(c.Funcs, f)
	}
	c.Funcs = append(c.Funcs, api.Func{Name: "spare", Regs: 1, Code: []api.Ins{{}}}, api.Func{})[:len(m.Funcs)]
	c.Thresholds = append(slices.Clone(m.Thresholds), 3, 2)[:len(m.Thresholds)]
	return c
}

// edge is one answer of Edge.
type edge struct {
	out []api.Span
	ok  bool
}

// answers are all that is told of a module: of each function the analysis, and of each way what is behind it, out of what stands there and out of other spans.
type answers struct {
	runs   []api.Analysis
	errors []api.Errno
	edges  []edge
}

// ask tells all of a module, and what was handed in for it.
func ask(m api.Module) (answers, [][]api.Span) {
	var a answers
	var handed [][]api.Span
	for fn := -1; fn <= len(m.Funcs); fn++ {
		run, e := bounds.Run(m, fn)
		a.runs, a.errors = append(a.runs, run), append(a.errors, e)
		if fn < 0 || fn == len(m.Funcs) {
			continue
		}
		f := m.Funcs[fn]
		regs := max(0, min(f.Regs, 70))
		for from := range min(len(f.Code), 40) {
			for i, to := range []int{from + 1, int(f.Code[from].N)} {
				in := append(slices.Repeat(l(s(int64(-i), 4)), regs), s(1, 0), n(3))[:regs]
				if i == 0 && e == api.OK && len(run.In[from]) > 0 {
					in = append(slices.Clone(run.In[from]), s(1, 0), n(3))[:regs]
				}
				out, ok := bounds.Edge(m, fn, from, to, in)
				a.edges = append(a.edges, edge{out, ok})
				handed = append(handed, in)
			}
		}
	}
	return a, handed
}

func asked(m api.Module) answers {
	a, _ := ask(m)
	return a
}

func (a answers) same(b answers) bool {
	return slices.Equal(a.errors, b.errors) && slices.EqualFunc(a.runs, b.runs, same) &&
		slices.EqualFunc(a.edges, b.edges, func(x, y edge) bool { return x.ok == y.ok && slices.Equal(x.out, y.out) })
}

// lists are all lists of spans that are told.
func (a answers) lists() [][]api.Span {
	var all [][]api.Span
	for _, r := range a.runs {
		all = append(all, r.In...)
	}
	for _, e := range a.edges {
		all = append(all, e.out)
	}
	return all
}

// whole tells whether two modules are the same, what lies in their spare room too.
func whole(a, b api.Module) bool {
	sameFunc := func(f, g api.Func) bool {
		return f.Name == g.Name && f.Regs == g.Regs && f.Words == g.Words && slices.Equal(f.Params[:cap(f.Params)], g.Params[:cap(g.Params)]) && slices.Equal(f.Code[:cap(f.Code)], g.Code[:cap(g.Code)])
	}
	return len(a.Funcs) == len(b.Funcs) && slices.EqualFunc(a.Funcs[:cap(a.Funcs)], b.Funcs[:cap(b.Funcs)], sameFunc) && slices.Equal(a.Thresholds[:cap(a.Thresholds)], b.Thresholds[:cap(b.Thresholds)])
}

// R3: a module and the spans that are handed in are not changed, spare room included, and what lies there shows in no answer.
func TestNotChanged(t *testing.T) {
	for _, m := range many(5) {
		one, two := copied(m), copied(m)
		got, handed := ask(one)
		want, again := ask(m)
		if !got.same(want) {
			t.Errorf("%s: what lies in spare room shows", short(m))
		}
		if !whole(one, two) {
			t.Errorf("%s was changed", short(m))
		}
		for i := range handed {
			if len(handed[i]) != len(again[i]) || !slices.Equal(handed[i][:cap(handed[i])], again[i][:cap(again[i])]) {
				t.Errorf("%s: the spans were changed: %v, %v", short(m), handed[i][:cap(handed[i])], again[i][:cap(again[i])])
			}
		}
	}
	m := text("func f 2 0", "set 0 5", "ret 0")
	in := l(s(0, 1), s(0, 2), s(0, 3))
	if told(t, "spans", m, 0, 0, 1, in[:2], n(5), s(0, 2)); !slices.Equal(in, l(s(0, 1), s(0, 2), s(0, 3))) {
		t.Errorf("the spans were changed: %v", in)
	}
}

// R4: names do not matter, nor what other functions do and have, but for the ranges that they declare.
func TestOtherFields(t *testing.T) {
	for i, m := range many(6) {
		want := asked(m)
		if slices.ContainsFunc(want.errors[1:len(want.errors)-1], func(e api.Errno) bool { return e != api.OK }) {
			continue
		}
		c := copied(m)
		for fn := range c.Funcs {
			c.Funcs[fn].Name = "n" + strconv.Itoa((fn*7+i)%len(c.Funcs)) + "x" + strconv.Itoa(fn)
		}
		if !asked(c).same(want) {
			t.Errorf("%s: another name is told otherwise", short(m))
		}
		for fn := range m.Funcs {
			c := copied(m)
			for other := range c.Funcs {
				if other != fn {
					c.Funcs[other].Code, c.Funcs[other].Words, c.Funcs[other].Regs = []api.Ins{{Op: api.OpJump}}, 4000, 64
				}
			}
			if a := done(t, "other functions", c, fn); !same(a, want.runs[fn+1]) {
				t.Errorf("%s, %d: what other functions do shows", short(m), fn)
			}
		}
	}
}

// R4: the same is told each time.
func TestEachTime(t *testing.T) {
	for _, m := range many(7) {
		want := asked(m)
		for range 3 {
			if !asked(m).same(want) {
				t.Errorf("%s: told otherwise", short(m))
			}
		}
	}
}

// reach is where a piece of memory begins and ends.
type reach struct{ from, to uintptr }

// reachOf is a list's memory, spare room included.
func reachOf[E any](l []E) reach {
	from := uintptr(unsafe.Pointer(unsafe.SliceData(l)))
	return reach{from, from + uintptr(cap(l))*unsafe.Sizeof(*new(E))}
}

// pieces are all pieces of memory of answers; their spare room must be empty.
func pieces(t *testing.T, a answers) []reach {
	t.Helper()
	var all []reach
	for _, list := range a.lists() {
		all = append(all, reachOf(list))
		for _, v := range list[len(list):cap(list)] {
			if v != (api.Span{}) {
				t.Errorf("spare room holds %v", v)
			}
		}
	}
	for _, r := range a.runs {
		all = append(all, reachOf(r.In), reachOf(r.Changes))
		for _, list := range r.Changes {
			all = append(all, reachOf(list))
			for _, v := range list[len(list):cap(list)] {
				if v != 0 {
					t.Errorf("spare room holds %v", v)
				}
			}
		}
	}
	return all
}

// R3: an answer is new memory: it shares none with what is handed in, nor with another answer, and no two of its lists share any.
func TestApart(t *testing.T) {
	for _, m := range many(8) {
		m = copied(m)
		// All are there ahead of any place being looked at: memory that is free again may be used again.
		one, handed := ask(m)
		two, others := ask(m)
		all := append(pieces(t, one), pieces(t, two)...)
		for _, in := range append(handed, others...) {
			all = append(all, reachOf(in))
		}
		for _, f := range m.Funcs[:cap(m.Funcs)] {
			all = append(all, reachOf(f.Code), reachOf(f.Params))
		}
		all = append(all, reachOf(m.Funcs), reachOf(m.Thresholds))
		all = slices.DeleteFunc(all, func(r reach) bool { return r.from == r.to })
		slices.SortFunc(all, func(a, b reach) int {
			if a.from < b.from {
				return -1
			}
			return 1
		})
		for i := 1; i < len(all); i++ {
			if all[i].from < all[i-1].to {
				t.Errorf("%s: two pieces of memory are one", short(m))
				break
			}
		}
		if !one.same(two) {
			t.Errorf("%s: told otherwise", short(m))
		}
	}
}

// R3, R4: what is told may be written over, and appended to; that shows in no other answer, nor in what was handed in.
func TestWrittenOver(t *testing.T) {
	for _, m := range many(9) {
		m = copied(m)
		was, want := copied(m), asked(m)
		got, handed := ask(m)
		for _, list := range got.lists() {
			for i := range list {
				list[i] = s(77, int64(-i))
			}
			_ = append(list, n(78))
		}
		for _, r := range got.runs {
			for _, list := range r.Changes {
				for i := range list {
					list[i] = 77
				}
				_ = append(list, 78)
			}
			clear(r.In)
			clear(r.Changes)
		}
		now, again := ask(m)
		if !now.same(want) || !whole(m, was) || !slices.EqualFunc(handed, again, slices.Equal[[]api.Span]) {
			t.Errorf("%s: what is written to an answer shows", short(m))
		}
	}
}

// R3, R4: what is written over when it was handed in shows in no answer; it is told of as what it is now.
func TestNotKept(t *testing.T) {
	for _, m := range many(10) {
		want := asked(m)
		c := copied(m)
		got, handed := ask(c)
		for fn := range c.Funcs {
			for at := range c.Funcs[fn].Code {
				c.Funcs[fn].Code[at] = api.Ins{Op: api.OpJump}
			}
			clear(c.Funcs[fn].Params)
		}
		clear(c.Thresholds)
		for _, in := range handed {
			clear(in)
		}
		if !got.same(want) {
			t.Errorf("%s: what was handed in is kept", short(m))
		}
		if !asked(c).same(asked(copied(c))) {
			t.Errorf("%s: what it was before shows", short(m))
		}
	}
}
