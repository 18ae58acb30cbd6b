package loops_test

import (
	"cmp"
	"slices"
	"testing"

	"soffit/api"
	"soffit/loops"
)

// nextOf is where an instruction of code of such a length leads, as P12.1 says it.
func nextOf(x api.Ins, at, length int) []int {
	var l []int
	if x.Op < 0 || x.Op > 19 || x.Op == api.OpRet {
		return nil
	}
	if x.Op != api.OpJump && x.Op != api.OpStep && at != length-1 {
		l = append(l, at+1)
	}
	if slices.Contains([]int{api.OpJump, api.OpStep, api.OpIf, api.OpUnless, api.OpCount}, x.Op) && x.N >= 0 && x.N < int64(length) && !slices.Contains(l, int(x.N)) {
		l = append(l, int(x.N))
	}
	return l
}

// graph is where each instruction leads.
type graph [][]int

func graphOf(f api.Func) graph {
	g := make(graph, len(f.Code))
	for at, x := range f.Code {
		g[at] = nextOf(x, at, len(f.Code))
	}
	return g
}

// ways is what ways from an instruction lead to that do not have another one; -1: all ways. The instruction itself is the shortest way.
func (g graph) ways(first, without int) []bool {
	found := make([]bool, len(g))
	if first >= len(g) || first == without {
		return found
	}
	found[first] = true
	for waiting := []int{first}; len(waiting) > 0; waiting = waiting[1:] {
		for _, v := range g[waiting[0]] {
			if v != without && !found[v] {
				found[v] = true
				waiting = append(waiting, v)
			}
		}
	}
	return found
}

// sorted is a graph's edges, of what can be reached, held by the meaning of 'dominates' to be back edges or not.
type sorted struct {
	reached []bool
	ahead   graph
	backs   map[int][]int
}

func (g graph) sort() sorted {
	s := sorted{g.ways(0, -1), make(graph, len(g)), map[int][]int{}}
	missed := make([][]bool, len(g))
	for u, ok := range s.reached {
		for _, v := range g[u] {
			if !ok {
				continue
			}
			if missed[v] == nil {
				missed[v] = g.ways(0, v)
			}
			if missed[v][u] {
				s.ahead[u] = append(s.ahead[u], v)
			} else {
				s.backs[v] = append(s.backs[v], u)
			}
		}
	}
	return s
}

// knots are all instructions from which a way ahead leads to themselves.
func (s sorted) knots() []int {
	var l []int
	for x := range s.ahead {
		if slices.ContainsFunc(s.ahead[x], func(v int) bool { return s.ahead.ways(v, -1)[x] }) {
			l = append(l, x)
		}
	}
	return l
}

// membersOf are a head's, by the word's meaning: from each of them a way without the head leads to where a back edge begins.
func (g graph) membersOf(s sorted, h int) []int {
	var l []int
	for x, ok := range s.reached {
		if !ok {
			continue
		}
		found := g.ways(x, h)
		if x == h || slices.ContainsFunc(s.backs[h], func(u int) bool { return found[u] }) {
			l = append(l, x)
		}
	}
	return l
}

// writes is the register that P9.2 tells of an instruction; below 0: none.
func writes(x api.Ins) int {
	switch x.Op {
	case api.OpRet, api.OpStore, api.OpCheck, api.OpJump, api.OpIf, api.OpUnless, api.OpCount:
		return -1
	}
	if x.Op < 0 || x.Op > 19 {
		return -1
	}
	return x.A
}

// wrong is one thing that is wrong, at its instruction.
type wrong struct {
	e  api.Errno
	at int
}

// wrongs are all things that are wrong with a loop, in any order.
func wrongs(f api.Func, l api.Loop) []wrong {
	var list []wrong
	head := f.Code[l.Head]
	if head.Op != api.OpCount {
		return []wrong{{api.ErrHead, l.Head}}
	}
	for _, v := range l.Members {
		x := f.Code[v]
		back := slices.Contains(l.Backs, v)
		if back && (x.Op != api.OpStep || x.A != head.A) {
			list = append(list, wrong{api.ErrBack, v})
		}
		if w := writes(x); w >= 0 && (w == head.A && !back || w == head.B) {
			list = append(list, wrong{api.ErrDrive, v})
		}
		if int64(v) == head.N {
			list = append(list, wrong{api.ErrExit, l.Head})
		}
	}
	return list
}

// firstOf is the one that P14.1 names first: the errors of a head stand there by their numbers.
func firstOf(list []wrong) wrong {
	return slices.MinFunc(list, func(a, b wrong) int { return cmp.Or(cmp.Compare(a.e, b.e), cmp.Compare(a.at, b.at)) })
}

// answer is what P14.1 says, word by word.
func answer(f api.Func) ([]api.Loop, wrong) {
	if len(f.Code) > 1024 {
		return nil, wrong{api.ErrCode, 1024}
	}
	g := graphOf(f)
	s := g.sort()
	if l := s.knots(); len(l) > 0 {
		return nil, wrong{api.ErrReduce, l[0]}
	}
	var list []api.Loop
	for h := range g {
		if len(s.backs[h]) > 0 {
			list = append(list, api.Loop{Head: h, Members: g.membersOf(s, h), Backs: s.backs[h]})
		}
	}
	for _, l := range list {
		if all := wrongs(f, l); len(all) > 0 {
			return nil, firstOf(all)
		}
	}
	for i := range list {
		list[i].Parent = parentOf(list, i)
	}
	return list, wrong{}
}

func parentOf(list []api.Loop, own int) int {
	var around []int
	for i, l := range list {
		if i != own && slices.Contains(l.Members, list[own].Head) {
			around = append(around, i)
		}
	}
	if len(around) == 0 {
		return -1
	}
	return slices.MinFunc(around, func(a, b int) int { return cmp.Compare(len(list[a].Members), len(list[b].Members)) })
}

// against holds a function to the words' own meanings, and tells what it came to.
func against(t *testing.T, f api.Func) ([]api.Loop, api.Errno) {
	t.Helper()
	l, e, at := loops.Find(f)
	want, first := answer(f)
	if e != first.e || at != first.at || !sameLoops(l, want) {
		t.Fatalf("Find(%s): %s, %d at %d, not %s, %d at %d", short(f.Code), short(l), e, at, short(want), first.e, first.at)
	}
	return l, e
}

// follows holds a function to P14.3, by what is told of it and where its instructions lead.
func follows(t *testing.T, f api.Func) {
	t.Helper()
	list, e, _ := loops.Find(f)
	if e != api.OK {
		return
	}
	g := graphOf(f)
	reached := g.ways(0, -1)
	heads := make([]bool, len(g))
	for i, l := range list {
		heads[l.Head] = true
		within(t, f, list, i)
		steps(t, f, g, reached, l)
	}
	if v := round(g, reached, heads); v >= 0 {
		t.Fatalf("%s: a way goes on and on by %d, and passes no head", short(f.Code), v)
	}
}

// within holds a loop to that it has no member together with another one, or one of the two has all of the other's.
func within(t *testing.T, f api.Func, list []api.Loop, own int) {
	t.Helper()
	a := list[own].Members
	for i, other := range list {
		b := other.Members
		n := 0
		for _, v := range a {
			if slices.Contains(b, v) {
				n++
			}
		}
		if n != 0 && n != len(a) && n != len(b) {
			t.Fatalf("%s: the loops %d and %d have %d members together", short(f.Code), own, i, n)
		}
		if i != own && n == len(a) && n == len(b) {
			t.Fatalf("%s: the loops %d and %d have the same members", short(f.Code), own, i)
		}
	}
	if p := list[own].Parent; p != -1 && (len(list[p].Members) <= len(a) || !slices.Contains(list[p].Members, list[own].Head)) {
		t.Fatalf("%s: the loop %d does not lie within its Parent %d", short(f.Code), own, p)
	}
}

// steps holds a loop to that it is come back to by steps of its A alone, that these alone write it, and that nothing writes its B.
func steps(t *testing.T, f api.Func, g graph, reached []bool, l api.Loop) {
	t.Helper()
	head := f.Code[l.Head]
	for u, next := range g {
		inside := slices.Contains(l.Members, u)
		if inside && !reached[u] {
			t.Fatalf("%s: %d can't be reached, but is a member", short(f.Code), u)
		}
		for _, v := range next {
			if inside && v == l.Head && f.Code[u] != (api.Ins{Op: api.OpStep, A: head.A, B: f.Code[u].B, C: f.Code[u].C, N: int64(l.Head)}) {
				t.Fatalf("%s: the loop of %d is come back to from %d", short(f.Code), l.Head, u)
			}
			if reached[u] && !inside && v != l.Head && slices.Contains(l.Members, v) {
				t.Fatalf("%s: the loop of %d is entered at %d", short(f.Code), l.Head, v)
			}
		}
		w := writes(f.Code[u])
		comesBack := slices.Contains(next, l.Head)
		if inside && w >= 0 && (w == head.A && !comesBack || w == head.B) {
			t.Fatalf("%s: in the loop of %d a register of its count is written by %d", short(f.Code), l.Head, u)
		}
	}
}

// round is an instruction that a way without heads leads to again, or from which one leads to such; -1: none. What leads nowhere is taken away, again and again.
func round(g graph, reached, heads []bool) int {
	left, out := map[int]bool{}, make([]int, len(g))
	from := make(graph, len(g))
	for u, ok := range reached {
		if !ok || heads[u] {
			continue
		}
		left[u] = true
		for _, v := range g[u] {
			if !heads[v] {
				out[u]++
				from[v] = append(from[v], u)
			}
		}
	}
	var waiting []int
	for u := range left {
		if out[u] == 0 {
			waiting = append(waiting, u)
		}
	}
	for ; len(waiting) > 0; waiting = waiting[1:] {
		delete(left, waiting[0])
		for _, u := range from[waiting[0]] {
			if out[u]--; out[u] == 0 {
				waiting = append(waiting, u)
			}
		}
	}
	for u := range left {
		return u
	}
	return -1
}
