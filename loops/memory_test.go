package loops_test

import (
	"slices"
	"testing"
	"unsafe"

	"soffit/api"
	"soffit/loops"
)

// roomy is a copy of a function whose code has spare room, with ways back in it.
func roomy(f api.Func) api.Func {
	f.Code = append(slices.Clone(f.Code), jump(0), step(0, 1), set(0))[:len(f.Code)]
	return f
}

// whole is a copy of a list, its spare room too.
func whole[E any](l []E) []E { return slices.Clone(l[:cap(l)]) }

// told is what Find tells.
type told struct {
	loops []api.Loop
	e     api.Errno
	at    int
}

func ask(f api.Func) told {
	l, e, at := loops.Find(f)
	return told{l, e, at}
}

func (a told) same(b told) bool { return a.e == b.e && a.at == b.at && sameLoops(a.loops, b.loops) }

// many are functions of other tests, and some at random.
func many(seed uint64) []api.Func {
	k := newMaker(seed)
	deep, _ := nest(40)
	list := []api.Func{sample(), pair(), row(), deep, backwards(300), of(times(1025, pass)...), of(when(2), jump(2), jump(1))}
	for _, c := range shapes() {
		list = append(list, c.f)
	}
	for range 100 {
		f := k.counting(40)
		list = append(list, f, k.mixed(f), k.spoiled(f), k.function())
	}
	return list
}

// R3: a function is not changed, spare room included, and what lies there shows in no answer.
func TestNotChanged(t *testing.T) {
	for _, f := range many(10) {
		g := roomy(f)
		was := whole(g.Code)
		if !ask(g).same(ask(f)) {
			t.Errorf("%s: what lies in spare room shows", short(f.Code))
		}
		if !slices.Equal(whole(g.Code), was) {
			t.Errorf("%s was changed", short(f.Code))
		}
	}
}

// The chapter: of a function Code alone is looked at, and of an instruction what it has.
func TestOtherFields(t *testing.T) {
	k := newMaker(11)
	for _, f := range many(12) {
		want := ask(f)
		for _, g := range []api.Func{
			{Name: "f", Regs: 1, Words: 0},
			{Name: "Not a name", Params: []api.Span{{Lo: 2, Hi: 1}}, Regs: -1, Words: most},
			{Params: make([]api.Span, 100), Regs: least, Words: least},
		} {
			g.Code = slices.Clone(f.Code)
			for i := range g.Code {
				x := &g.Code[i]
				x.C = k.IntN(9) - 4
				switch x.Op {
				case api.OpStep, api.OpIf, api.OpUnless:
					x.B = k.IntN(12)
				case api.OpJump, api.OpRet:
					x.A, x.B = k.IntN(12), k.IntN(12)
				case api.OpCount:
				default:
					x.B, x.N = k.IntN(12), int64(k.IntN(9)-2)
				}
			}
			if !ask(g).same(want) {
				t.Errorf("%s: another function with this code is told otherwise", short(f.Code))
			}
		}
	}
}

// R4, P14.1: the same is told each time, with Members and Backs by rising number, and the loops by rising Head.
func TestEachTime(t *testing.T) {
	for _, f := range many(13) {
		want := ask(f)
		for range 8 {
			if got := ask(f); !got.same(want) {
				t.Errorf("%s: %v, then %v", short(f.Code), short(want), short(got))
			}
		}
		for i, l := range want.loops {
			if !rises(l.Members) || !rises(l.Backs) || i > 0 && want.loops[i-1].Head >= l.Head {
				t.Errorf("%s: %v does not rise", short(f.Code), short(want.loops))
			}
		}
	}
}

func rises(l []int) bool {
	for i := range l {
		if i > 0 && l[i-1] >= l[i] {
			return false
		}
	}
	return true
}

// reach is where a piece of memory begins and ends.
type reach struct{ from, to uintptr }

func reachOf[E any](l []E) reach {
	from := uintptr(unsafe.Pointer(unsafe.SliceData(l)))
	return reach{from, from + uintptr(cap(l))*unsafe.Sizeof(*new(E))}
}

// pieces are all lists of an answer, spare room included; what lies there is told as wrong, if it isn't empty.
func pieces(t *testing.T, l []api.Loop) []reach {
	t.Helper()
	list := []reach{reachOf(l)}
	for _, x := range l {
		list = append(list, reachOf(x.Members), reachOf(x.Backs))
		for _, v := range append(whole(x.Members)[len(x.Members):], whole(x.Backs)[len(x.Backs):]...) {
			if v != 0 {
				t.Errorf("spare room holds %d", v)
			}
		}
	}
	for _, x := range whole(l)[len(l):] {
		if !sameLoop(x, api.Loop{}) {
			t.Errorf("spare room holds %v", x)
		}
	}
	return list
}

// R3: an answer is new memory, with empty spare room: no two lists of it share any, nor does one with the function or with another answer.
func TestApart(t *testing.T) {
	for _, f := range many(14) {
		f = roomy(f)
		// Both are there ahead of any place being looked at: memory that is free again may be used again.
		one, two := ask(f).loops, ask(f).loops
		all := slices.Concat(pieces(t, one), pieces(t, two), []reach{reachOf(f.Code)})
		all = slices.DeleteFunc(all, func(r reach) bool { return r.from == r.to })
		slices.SortFunc(all, func(a, b reach) int {
			if a.from < b.from {
				return -1
			}
			return 1
		})
		for i := 1; i < len(all); i++ {
			if all[i].from < all[i-1].to {
				t.Errorf("%s: two pieces of memory are one", short(f.Code))
			}
		}
	}
}

// R3, R4: what is told may be written over, and appended to; that shows in no other answer, not in another list of it, nor in the function.
func TestWrittenOver(t *testing.T) {
	for _, f := range many(15) {
		f = roomy(f)
		was, want := whole(f.Code), ask(f)
		got := ask(f).loops
		for i := range got {
			for j := range got[i].Members {
				got[i].Members[j] = 77
			}
			_ = append(got[i].Members, 78, 79)
			if !slices.Equal(got[i].Backs, want.loops[i].Backs) {
				t.Errorf("%s: what is written to Members shows in Backs", short(f.Code))
			}
			for j := range got[i].Backs {
				got[i].Backs[j] = -5
			}
			_ = append(got[i].Backs, -6, -7)
			if i+1 < len(got) && !sameLoop(got[i+1], want.loops[i+1]) {
				t.Errorf("%s: what is written to one loop shows in another", short(f.Code))
			}
		}
		clear(got)
		_ = append(got, api.Loop{Head: 9})
		if !ask(f).same(want) || !slices.Equal(whole(f.Code), was) {
			t.Errorf("%s: what is written to an answer shows", short(f.Code))
		}
	}
}

// R3, R4: code that is written over when it was asked for shows in no answer; it is told of as what it is now.
func TestNotKept(t *testing.T) {
	for _, f := range many(16) {
		want := ask(f)
		g := roomy(f)
		got := ask(g)
		for i := range g.Code {
			g.Code[i] = pass
		}
		if !got.same(want) {
			t.Errorf("%s: the function is kept", short(f.Code))
		}
		if !ask(g).same(ask(of(times(len(f.Code), pass)...))) {
			t.Errorf("%s: what it was before shows", short(f.Code))
		}
	}
}

// R3: Depth changes nothing, spare room included, and does not look there.
func TestDepthNotChanged(t *testing.T) {
	members := []int{5, 3, 3, 9, 4, 4}
	list := []api.Loop{{Head: 1, Parent: 2, Members: members[:4], Backs: members[1:3]}, {Members: members[2:3]}, {Members: []int{4}}}
	l := list[:2]
	for at, want := range map[int]int{5: 1, 3: 2, 9: 1, 4: 0} {
		depth(t, "spare room", l, at, want)
	}
	if !slices.Equal(members, []int{5, 3, 3, 9, 4, 4}) || list[0].Head != 1 || list[0].Parent != 2 || len(list[0].Members) != 4 || len(list[0].Backs) != 2 || len(list[1].Members) != 1 {
		t.Error("the list was changed")
	}
}
