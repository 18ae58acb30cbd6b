package dom_test

import (
	"math/rand/v2"
	"slices"
	"testing"
	"unsafe"

	"soffit/api"
	"soffit/dom"
)

// roomy is a copy of a function whose code has spare room, with jumps in it.
func roomy(f api.Func) api.Func {
	f.Code = append(slices.Clone(f.Code), jump(0), jump(1), set)[:len(f.Code)]
	return f
}

// whole is a copy of a function's code, its spare room too.
func whole(f api.Func) []api.Ins { return slices.Clone(f.Code[:cap(f.Code)]) }

// answers are what is told of a function: all nearest dominators, and of some pairs whether one dominates the other.
type answers struct {
	tree  []int
	pairs []bool
}

func ask(f api.Func) answers {
	a := answers{tree: dom.Tree(f)}
	for i := -1; i <= min(len(f.Code), 5); i++ {
		last := len(f.Code) - 1
		a.pairs = append(a.pairs, dom.Dominates(f, i, i), dom.Dominates(f, i, last-i), dom.Dominates(f, i, last), dom.Dominates(f, i, i+1))
	}
	return a
}

func (a answers) same(b answers) bool {
	return slices.Equal(a.tree, b.tree) && slices.Equal(a.pairs, b.pairs)
}

// many are functions of other tests, and some at random.
func many(seed uint64) []api.Func {
	k := maker{rand.New(rand.NewPCG(13, seed))}
	list := []api.Func{sample(), nested(), of(zipper(200, when(199))...), of(times(1024, unless(1023))...), of(times(1025, set)...)}
	for _, c := range byHand() {
		list = append(list, c.f)
	}
	for range 200 {
		list = append(list, k.function())
	}
	return list
}

// R3: a function is not changed, spare room included, and what lies there shows in no answer.
func TestNotChanged(t *testing.T) {
	for _, f := range many(1) {
		g := roomy(f)
		was := whole(g)
		if !ask(g).same(ask(f)) {
			t.Errorf("%s: what lies in spare room shows", short(f.Code))
		}
		if !slices.Equal(whole(g), was) {
			t.Errorf("%s was changed", short(f.Code))
		}
	}
}

// The chapter: of a function Code alone is looked at, and of an instruction where it leads.
func TestOtherFields(t *testing.T) {
	k := maker{rand.New(rand.NewPCG(13, 2))}
	for _, f := range many(3) {
		want := ask(f)
		for _, g := range []api.Func{
			{Name: "f", Regs: 1, Words: 0},
			{Name: "Not a name", Params: []api.Span{{Lo: 2, Hi: 1}}, Regs: -1, Words: most},
			{Params: make([]api.Span, 100), Regs: least, Words: least},
		} {
			g.Code = slices.Clone(f.Code)
			for i := range g.Code {
				x := &g.Code[i]
				x.A, x.B, x.C = k.IntN(100)-50, k.IntN(100)-50, most
				if kind := kindOf(x.Op); kind == nowhere || kind == behind {
					x.N = int64(k.IntN(9) - 2)
				}
			}
			if !ask(g).same(want) {
				t.Errorf("%s: another function with this code is told otherwise", short(f.Code))
			}
		}
	}
}

// reach is where a piece of memory begins and ends.
type reach struct{ from, to uintptr }

func reachOf[E any](l []E) reach {
	from := uintptr(unsafe.Pointer(unsafe.SliceData(l)))
	return reach{from, from + uintptr(cap(l))*unsafe.Sizeof(*new(E))}
}

func (r reach) apart(other reach) bool { return r.to <= other.from || other.to <= r.from }

// R3: an answer is new memory, with empty spare room: it shares none with the function, nor with another answer.
func TestApart(t *testing.T) {
	for _, f := range many(4) {
		f = roomy(f)
		a, b := dom.Tree(f), dom.Tree(f)
		for _, x := range a[len(a):cap(a)] {
			if x != 0 {
				t.Errorf("%s: spare room holds %d", short(f.Code), x)
			}
		}
		if cap(a) == 0 {
			continue
		}
		if !reachOf(a).apart(reachOf(b)) || !reachOf(a).apart(reachOf(f.Code)) {
			t.Errorf("%s: two pieces of memory are one", short(f.Code))
		}
	}
}

// R3, R4: what is told may be written over, and appended to; that shows in no other answer, nor in the function.
func TestWrittenOver(t *testing.T) {
	for _, f := range many(5) {
		f = roomy(f)
		was := whole(f)
		want := ask(f)
		l := dom.Tree(f)
		for i := range l {
			l[i] = 77
		}
		_ = append(l, 78, 79)
		if !ask(f).same(want) || !slices.Equal(whole(f), was) {
			t.Errorf("%s: what is written to an answer shows", short(f.Code))
		}
	}
}

// R3, R4: code that is written over when it was asked for shows in no answer, and the other way round: code that is other code now is told of as that.
func TestNotKept(t *testing.T) {
	for _, f := range many(6) {
		want := ask(f)
		g := roomy(f)
		told := ask(g)
		for i := range g.Code {
			g.Code[i] = set
		}
		if !told.same(want) {
			t.Errorf("%s: the function is kept", short(f.Code))
		}
		if !ask(g).same(ask(of(times(len(f.Code), set)...))) {
			t.Errorf("%s: what it was before shows", short(f.Code))
		}
	}
}
