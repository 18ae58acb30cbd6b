package flow_test

import (
	"math/rand/v2"
	"slices"
	"testing"
	"unsafe"

	"soffit/api"
	"soffit/flow"
)

// roomy is a copy of a function whose code has spare room, with jumps in it.
func roomy(f api.Func) api.Func {
	f.Code = append(slices.Clone(f.Code), jump(0), jump(1), set)[:len(f.Code)]
	return f
}

// whole is a copy of a function's code, its spare room too.
func whole(f api.Func) []api.Ins { return slices.Clone(f.Code[:cap(f.Code)]) }

// answers are all that is told of a function.
type answers struct {
	next    [][]int
	reached []bool
	edges   []pair
	blocks  []int
}

func ask(f api.Func) answers {
	var a answers
	for at := -1; at <= min(len(f.Code), 1030); at++ {
		a.next = append(a.next, flow.Next(f, at))
	}
	a.reached, a.edges, a.blocks = flow.Reach(f), collect(flow.Edges(f)), flow.Blocks(f)
	return a
}

func (a answers) same(b answers) bool {
	return slices.EqualFunc(a.next, b.next, slices.Equal[[]int]) && slices.Equal(a.reached, b.reached) && slices.Equal(a.edges, b.edges) && slices.Equal(a.blocks, b.blocks)
}

// many are the functions of other tests, and some at random.
func many(seed uint64) []api.Func {
	k := maker{rand.New(rand.NewPCG(12, seed))}
	list := graphs()
	for range 300 {
		list = append(list, k.function())
	}
	return list
}

// R3: a function is not changed, spare room included, and what lies there shows in no answer.
func TestNotChanged(t *testing.T) {
	for _, f := range many(1) {
		g := roomy(f)
		was := whole(g)
		if !ask(g).same(ask(f)) {
			t.Errorf("%s: what lies in spare room shows", short(f.Code))
		}
		if !slices.Equal(whole(g), was) {
			t.Errorf("%s was changed", short(f.Code))
		}
	}
}

// The chapter: of a function Code alone is looked at, and of an instruction where it leads.
func TestOtherFields(t *testing.T) {
	k := maker{rand.New(rand.NewPCG(12, 2))}
	for _, f := range many(3) {
		want := ask(f)
		for _, g := range []api.Func{
			{Name: "f", Regs: 1, Words: 0},
			{Name: "Not a name", Params: []api.Span{{Lo: 2, Hi: 1}}, Regs: -1, Words: most},
			{Params: make([]api.Span, 100), Regs: least, Words: least},
		} {
			g.Code = slices.Clone(f.Code)
			for i := range g.Code {
				x := &g.Code[i]
				x.A, x.B, x.C = k.IntN(100)-50, k.IntN(100)-50, most
				if kind := kindOf(x.Op); kind == nowhere || kind == behind {
					x.N = int64(k.IntN(9) - 2)
				}
			}
			if !ask(g).same(want) {
				t.Errorf("%s: another function with this code is told otherwise", short(f.Code))
			}
		}
	}
}

// span is a piece of memory.
type span struct{ from, to uintptr }

// spanOf is a list's memory, spare room included, which must be empty.
func spanOf[E comparable](t *testing.T, l []E) []span {
	t.Helper()
	if cap(l) == 0 {
		return nil
	}
	var zero E
	for _, x := range l[len(l):cap(l)] {
		if x != zero {
			t.Errorf("spare room holds %v", x)
		}
	}
	from := uintptr(unsafe.Pointer(unsafe.SliceData(l)))
	return []span{{from, from + uintptr(cap(l))*unsafe.Sizeof(zero)}}
}

// R3: an answer is new memory: it shares none with the function, nor with another answer.
func TestApart(t *testing.T) {
	for _, f := range many(4) {
		f = roomy(f)
		var all []span
		code := unsafe.SliceData(f.Code)
		from := uintptr(unsafe.Pointer(code))
		all = append(all, span{from, from + uintptr(cap(f.Code))*unsafe.Sizeof(*code)})
		keep := []answers{ask(f), ask(f)}
		for _, a := range keep {
			all = append(all, slices.Concat(spanOf(t, a.reached), spanOf(t, a.blocks))...)
			for _, l := range a.next {
				all = append(all, spanOf(t, l)...)
			}
		}
		slices.SortFunc(all, func(x, y span) int {
			if x.from < y.from {
				return -1
			}
			return 1
		})
		for i := 1; i < len(all); i++ {
			if all[i].from < all[i-1].to {
				t.Errorf("%s: two pieces of memory are one", short(f.Code))
				break
			}
		}
	}
}

// R3, R4: what is told may be written over, and appended to; that shows in no other answer, nor in the function.
func TestWrittenOver(t *testing.T) {
	for _, f := range many(5) {
		f = roomy(f)
		was := whole(f)
		want := ask(f)
		seq := flow.Edges(f)
		for at := range f.Code {
			l := flow.Next(f, at)
			for i := range l {
				l[i] = 77
			}
			_ = append(l, 78, 79)
		}
		reached, blocks := flow.Reach(f), flow.Blocks(f)
		for i := range reached {
			reached[i] = !reached[i]
		}
		for i := range blocks {
			blocks[i] = -7
		}
		_, _ = append(reached, true, true), append(blocks, 77, 78)
		if !slices.Equal(collect(seq), want.edges) || !ask(f).same(want) || !slices.Equal(whole(f), was) {
			t.Errorf("%s: what is written to an answer shows", short(f.Code))
		}
	}
}

// R3, R4: code that is written over when it was asked for, or while its edges are gone through, shows in none of them.
func TestNotKept(t *testing.T) {
	for _, f := range many(6) {
		want := ask(f)
		g := roomy(f)
		seq, reached, blocks := flow.Edges(g), flow.Reach(g), flow.Blocks(g)
		for i := range g.Code {
			g.Code[i] = jump(0)
		}
		if !slices.Equal(collect(seq), want.edges) || !slices.Equal(reached, want.reached) || !slices.Equal(blocks, want.blocks) {
			t.Errorf("%s: the function is kept", short(f.Code))
		}
		g = roomy(f)
		var told []pair
		for u, v := range flow.Edges(g) {
			told = append(told, pair{u, v})
			for i := range g.Code {
				g.Code[i] = ret
			}
		}
		if !slices.Equal(told, want.edges) {
			t.Errorf("%s: what is written on the way shows", short(f.Code))
		}
	}
}
