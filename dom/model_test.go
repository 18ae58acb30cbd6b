package dom_test

import (
	"math/rand/v2"
	"slices"
	"testing"

	"soffit/api"
	"soffit/dom"
)

// How an operation leads on.
const (
	nowhere = iota
	behind
	named
	both
)

// kinds are the operations, as P12.1 sorts them.
var kinds = [20]int{
	api.OpRet: nowhere,
	api.OpSet: behind, api.OpMove: behind, api.OpAdd: behind, api.OpSub: behind, api.OpMul: behind, api.OpDiv: behind, api.OpRem: behind,
	api.OpLess: behind, api.OpEqual: behind, api.OpNot: behind, api.OpLoad: behind, api.OpStore: behind, api.OpCheck: behind, api.OpCall: behind,
	api.OpJump: named, api.OpStep: named,
	api.OpIf: both, api.OpUnless: both, api.OpCount: both,
}

// kindOf tells how an operation leads on; what is none leads nowhere.
func kindOf(op int) int {
	if op < 0 || op >= len(kinds) {
		return nowhere
	}
	return kinds[op]
}

// nextOf is where an instruction of code of such a length leads, as P12.1 says it.
func nextOf(x api.Ins, at, length int) []int {
	var l []int
	kind := kindOf(x.Op)
	if (kind == behind || kind == both) && at != length-1 {
		l = append(l, at+1)
	}
	if (kind == named || kind == both) && x.N >= 0 && x.N < int64(length) && !slices.Contains(l, int(x.N)) {
		l = append(l, int(x.N))
	}
	return l
}

// graphOf is where each instruction of a function leads.
func graphOf(f api.Func) [][]int {
	var l [][]int
	for at, x := range f.Code {
		l = append(l, nextOf(x, at, len(f.Code)))
	}
	return l
}

// without is what can be reached from 0 by ways that do not have one instruction; -1: by all ways.
func without(graph [][]int, one int) []bool {
	found := make([]bool, len(graph))
	if len(graph) == 0 || one == 0 {
		return found
	}
	found[0] = true
	for waiting := []int{0}; len(waiting) > 0; waiting = waiting[1:] {
		for _, v := range graph[waiting[0]] {
			if v != one && !found[v] {
				found[v] = true
				waiting = append(waiting, v)
			}
		}
	}
	return found
}

// meaning is, for each a and b, whether both can be reached and no way from 0 leads to b without a.
func meaning(graph [][]int) [][]bool {
	reached := without(graph, -1)
	var l [][]bool
	for a := range graph {
		row := make([]bool, len(graph))
		missed := without(graph, a)
		for b := range row {
			row[b] = reached[a] && reached[b] && !missed[b]
		}
		l = append(l, row)
	}
	return l
}

// treeOf is what P13.2 says, word by word, of what dominates what.
func treeOf(dominates [][]bool) []int {
	var l []int
	for v := range dominates {
		var others []int
		for a := range dominates {
			if a != v && dominates[a][v] {
				others = append(others, a)
			}
		}
		nearest := -1
		for _, a := range others {
			if !slices.ContainsFunc(others, func(other int) bool { return !dominates[other][a] }) {
				nearest = a
			}
		}
		l = append(l, nearest)
	}
	return l
}

// against holds a function to the meaning of its words: its tree, and all pairs, or of a long one so many.
func against(t *testing.T, f api.Func, pairs int, k maker) {
	t.Helper()
	want := meaning(graphOf(f))
	if l := dom.Tree(f); !slices.Equal(l, treeOf(want)) {
		t.Fatalf("Tree(%s): %s, not %s", short(f.Code), short(l), short(treeOf(want)))
	}
	length := len(f.Code)
	if length*length <= pairs {
		for a := range length {
			for b := range length {
				if dom.Dominates(f, a, b) != want[a][b] {
					t.Fatalf("Dominates(%s, %d, %d): %v", short(f.Code), a, b, !want[a][b])
				}
			}
		}
		return
	}
	for range pairs {
		a, b := k.IntN(length), k.IntN(length)
		if dom.Dominates(f, a, b) != want[a][b] {
			t.Fatalf("Dominates(%s, %d, %d): %v", short(f.Code), a, b, !want[a][b])
		}
	}
}

// climb is what is met by a tree, again and again, from an instruction on, it itself first.
func climb(t *testing.T, f api.Func, tree []int, v int) []int {
	t.Helper()
	var met []int
	for ; v != -1; v = tree[v] {
		if v < 0 || v >= len(tree) || len(met) == len(tree) {
			t.Fatalf("Tree(%s): %s: it does not end at 0", short(f.Code), short(tree))
		}
		met = append(met, v)
	}
	return met
}

// follows holds a function to P13.4, by what is told of it, and where its instructions lead.
func follows(t *testing.T, f api.Func) {
	t.Helper()
	tree, graph := dom.Tree(f), graphOf(f)
	reached := without(graph, -1)
	above := make([]map[int]bool, len(tree))
	for v, ok := range reached {
		if !ok {
			continue
		}
		met := climb(t, f, tree, v)
		if met[len(met)-1] != 0 {
			t.Fatalf("Tree(%s): %s: from %d one does not come to 0", short(f.Code), short(tree), v)
		}
		above[v] = map[int]bool{}
		for _, a := range met {
			above[v][a] = true
		}
	}
	for u, ok := range reached {
		for _, v := range graph[u] {
			if ok && v != 0 && !above[u][tree[v]] {
				t.Fatalf("Tree(%s): %s: %d leads to %d, but %d does not dominate it", short(f.Code), short(tree), u, v, tree[v])
			}
		}
	}
	if len(tree) <= 12 {
		metAreThose(t, f, above)
	}
}

// metAreThose holds a function to that what is met by the tree is just what dominates, and that two that dominate one another are one.
func metAreThose(t *testing.T, f api.Func, above []map[int]bool) {
	t.Helper()
	for a := range above {
		for b := range above {
			says := dom.Dominates(f, a, b)
			if says != above[b][a] {
				t.Fatalf("%s: Dominates of %d and %d is %v, by the tree it is not", short(f.Code), a, b, says)
			}
			if a != b && says && dom.Dominates(f, b, a) {
				t.Fatalf("%s: %d and %d dominate one another", short(f.Code), a, b)
			}
		}
	}
}

// maker makes functions at random.
type maker struct{ *rand.Rand }

// target is an instruction's number most of the time, one nearby or ahead more often; seldom one beside the code.
func (k maker) target(at, length int) int64 {
	switch k.IntN(16) {
	case 0:
		return []int64{-1, int64(length), int64(length) + 1, least, most, 1 << 32, 1<<32 + int64(at)}[k.IntN(7)]
	case 1:
		return []int64{0, int64(length) - 1}[k.IntN(2)]
	case 2, 3, 4:
		return int64(at + k.IntN(9) - 4)
	case 5, 6:
		return int64(k.IntN(at + 1))
	}
	return int64(k.IntN(length))
}

// op is one of the operations, one that branches more often than it would; seldom one that leads nowhere, or none.
func (k maker) op(length int) int {
	switch k.IntN(4) {
	case 0:
		if k.IntN(length+4) < 2 {
			return []int{api.OpRet, -1, 20, most, least, 1<<32 + 14}[k.IntN(6)]
		}
		return k.IntN(20)
	case 1:
		return []int{api.OpIf, api.OpUnless, api.OpCount}[k.IntN(3)]
	case 2:
		return []int{api.OpJump, api.OpStep, api.OpIf, api.OpCount}[k.IntN(4)]
	}
	return []int{api.OpSet, api.OpAdd, api.OpCall, api.OpStore}[k.IntN(4)]
}

// function is one of few instructions most of the time.
func (k maker) function() api.Func {
	length := 1 + k.IntN([]int{3, 6, 12, 12, 40, 40, 200}[k.IntN(7)])
	if k.IntN(50) == 0 {
		length = 1 + k.IntN(api.MaxCode)
	}
	var f api.Func
	for at := range length {
		f.Code = append(f.Code, api.Ins{Op: k.op(length), A: k.IntN(3), B: k.IntN(3), N: k.target(at, length)})
	}
	return f
}

// branching is a function of branches alone, of which most can be reached, and much leads backwards.
func (k maker) branching(length int) api.Func {
	var f api.Func
	for at := range length {
		x := api.Ins{Op: []int{api.OpIf, api.OpUnless, api.OpCount}[k.IntN(3)], N: int64(k.IntN(length))}
		if k.IntN(3) > 0 {
			x.N = int64(max(0, min(length-1, at+k.IntN(7)-3)))
		}
		if k.IntN(4) == 0 {
			x.Op = api.OpSet
		}
		f.Code = append(f.Code, x)
	}
	return f
}

// P13.1, P13.2, P13.4: functions at random, held against what follows, and against the meaning of 'dominates'.
func TestRandom(t *testing.T) {
	k := maker{rand.New(rand.NewPCG(13, 7))}
	var flat, deep, part int
	for i := range 4000 {
		f := k.function()
		if i%4 == 0 {
			f = k.branching(1 + k.IntN(60))
		}
		follows(t, f)
		if len(f.Code) <= 60 || k.IntN(10) == 0 {
			against(t, f, 100, k)
		}
		tree := dom.Tree(f)
		steps := 0
		for v := range tree {
			steps = max(steps, len(climb(t, f, tree, v)))
		}
		switch {
		case len(tree) > 5 && steps < len(tree)/3:
			flat++
		case steps > 8:
			deep++
		}
		if slices.Contains(tree[1:], -1) {
			part++
		}
	}
	if flat < 200 || deep < 200 || part < 200 {
		t.Errorf("the test's own functions: %d flat, %d deep, %d reached in part", flat, deep, part)
	}
}

// P13.1, P13.2: long functions at random, against the meaning of 'dominates'.
func TestRandomLong(t *testing.T) {
	k := maker{rand.New(rand.NewPCG(13, 8))}
	for _, length := range []int{63, 64, 65, 127, 128, 129, 300, 640, 1023, 1024} {
		f := k.branching(length)
		against(t, f, 40, k)
		follows(t, f)
	}
}

// every goes through all codes of some instructions of a list.
func every(list []api.Ins, code []api.Ins, at int, do func(f api.Func)) {
	if at == len(code) {
		do(api.Func{Code: code})
		return
	}
	for _, x := range list {
		code[at] = x
		every(list, code, at+1, do)
	}
}

// P13.1, P13.2, P13.4: all short codes of instructions that lead on in each way, to each place.
func TestEveryShort(t *testing.T) {
	k := maker{rand.New(rand.NewPCG(13, 9))}
	for length := range 5 {
		list := []api.Ins{ret, set}
		for n := range length {
			list = append(list, jump(int64(n)), when(int64(n)))
		}
		if length < 4 {
			list = append(list, api.Ins{Op: 20, N: 1}, jump(-1), when(-1), jump(int64(length)), when(int64(length)), step(0), count(1), unless(2))
		}
		every(list, make([]api.Ins, length), 0, func(f api.Func) {
			against(t, f, 100, k)
			follows(t, f)
		})
	}
}

// P13.1, P13.2: all codes of five branches, whose graphs are the fullest.
func TestEveryBranching(t *testing.T) {
	k := maker{rand.New(rand.NewPCG(13, 10))}
	var list []api.Ins
	for n := range 5 {
		list = append(list, when(int64(n)), jump(int64(n)))
	}
	every(list, make([]api.Ins, 5), 0, func(f api.Func) {
		if l, want := dom.Tree(f), treeOf(meaning(graphOf(f))); !slices.Equal(l, want) {
			t.Fatalf("Tree(%s): %s, not %s", short(f.Code), short(l), short(want))
		}
		a, b := k.IntN(5), k.IntN(5)
		if dom.Dominates(f, a, b) != meaning(graphOf(f))[a][b] {
			t.Fatalf("Dominates(%s, %d, %d)", short(f.Code), a, b)
		}
	})
}

// P13.4: the functions of other tests.
func TestFollows(t *testing.T) {
	for _, f := range many(11) {
		if len(f.Code) <= api.MaxCode {
			follows(t, f)
		}
	}
}

// read makes a function of bytes: two of them an instruction.
func read(b []byte) api.Func {
	var f api.Func
	for ; len(b) >= 2 && len(f.Code) < api.MaxCode; b = b[2:] {
		f.Code = append(f.Code, api.Ins{Op: int(b[0])%24 - 2, N: int64(int8(b[1]))})
	}
	return f
}

func FuzzAgainstModel(f *testing.F) {
	f.Add([]byte{})
	f.Add([]byte{19, 4, 17, 3, 5, 0, 20, 0, 2, 0, 16, 5})
	f.Add([]byte{17, 2, 16, 3, 16, 3, 16, 1})
	f.Add([]byte{16, 0, 16, 0})
	f.Fuzz(func(t *testing.T, b []byte) {
		against(t, read(b), 30, maker{rand.New(rand.NewPCG(13, uint64(len(b))))})
		follows(t, read(b))
	})
}
