package flow_test

import (
	"math/rand/v2"
	"slices"
	"testing"

	"soffit/api"
	"soffit/flow"
)

// maker makes functions at random.
type maker struct{ *rand.Rand }

// target is an instruction's number most of the time, one nearby more often; else one beside the code.
func (k maker) target(at, length int) int64 {
	switch k.IntN(10) {
	case 0:
		return int64(at + k.IntN(5) - 2)
	case 1:
		return []int64{-1, int64(length), int64(length) + 1, least, most, 1 << 32, 1<<32 + int64(at)}[k.IntN(7)]
	case 2:
		return []int64{0, int64(length) - 1}[k.IntN(2)]
	}
	return int64(k.IntN(length))
}

// op is one of the operations, one that branches or goes on more often than it would; seldom none.
func (k maker) op() int {
	switch k.IntN(30) {
	case 0:
		return noOperations[k.IntN(len(noOperations))]
	case 1, 2, 3:
		return k.IntN(20)
	case 4:
		return api.OpRet
	case 5, 6, 7, 8:
		return []int{api.OpJump, api.OpStep}[k.IntN(2)]
	case 9, 10, 11, 12, 13:
		return []int{api.OpIf, api.OpUnless, api.OpCount}[k.IntN(3)]
	}
	return []int{api.OpSet, api.OpAdd, api.OpCall, api.OpStore}[k.IntN(4)]
}

// function is one of few instructions most of the time.
func (k maker) function() api.Func {
	length := 1 + k.IntN([]int{3, 6, 12, 12, 40, 40, 1024}[k.IntN(7)])
	var f api.Func
	for at := range length {
		f.Code = append(f.Code, api.Ins{Op: k.op(), A: k.IntN(3), B: k.IntN(3), N: k.target(at, length)})
	}
	return f
}

// leadsTo is whether u leads to v, of one pair: what P12.1 says, read the other way.
func leadsTo(f api.Func, u, v int) bool {
	x := f.Code[u]
	kind := kindOf(x.Op)
	return kind != nowhere && kind != named && v == u+1 || (kind == named || kind == both) && x.N == int64(v)
}

// reachedOf is what can be reached, told by rounds over all instructions until one finds nothing new.
func reachedOf(f api.Func) []bool {
	reached := make([]bool, len(f.Code))
	if len(reached) == 0 {
		return reached
	}
	reached[0] = true
	for found := true; found; {
		found = false
		for u, x := range f.Code {
			if !reached[u] {
				continue
			}
			for _, v := range nextOf(x, u, len(f.Code)) {
				found = found || !reached[v]
				reached[v] = true
			}
		}
	}
	return reached
}

// edgesOf are all pairs, sorted: by u, then what lies behind u ahead of all others.
func edgesOf(f api.Func, reached []bool) []pair {
	var l []pair
	for u, ok := range reached {
		if !ok {
			continue
		}
		first := len(l)
		for v := range f.Code {
			if leadsTo(f, u, v) {
				l = append(l, pair{u, v})
			}
		}
		if mine := l[first:]; len(mine) == 2 && mine[1].v == u+1 {
			mine[0], mine[1] = mine[1], mine[0]
		}
	}
	return l
}

// blocksOf are the blocks' beginnings, as P12.4 says it.
func blocksOf(reached []bool, edges []pair) []int {
	into, from := map[int][]int{}, map[int][]int{}
	for _, e := range edges {
		into[e.v] = append(into[e.v], e.u)
		from[e.u] = append(from[e.u], e.v)
	}
	var l []int
	for v, ok := range reached {
		within := v != 0 && slices.Equal(into[v], []int{v - 1}) && slices.Equal(from[v-1], []int{v})
		if ok && !within {
			l = append(l, v)
		}
	}
	return l
}

// against holds all calls to the model, of a function with no more instructions than there may be.
func against(t *testing.T, f api.Func) {
	t.Helper()
	for at := -2; at < len(f.Code)+2; at++ {
		var x api.Ins
		if at >= 0 && at < len(f.Code) {
			x = f.Code[at]
		}
		next(t, f, at, nextOf(x, at, len(f.Code))...)
	}
	reached := reachedOf(f)
	edges := edgesOf(f, reached)
	if l := flow.Reach(f); !slices.Equal(l, reached) {
		t.Fatalf("Reach(%s): %s, not %s", short(f.Code), short(l), short(reached))
	}
	if l := collect(flow.Edges(f)); !slices.Equal(l, edges) {
		t.Fatalf("Edges(%s): %s, not %s", short(f.Code), short(l), short(edges))
	}
	if l, want := flow.Blocks(f), blocksOf(reached, edges); !slices.Equal(l, want) {
		t.Fatalf("Blocks(%s): %s, not %s", short(f.Code), short(l), short(want))
	}
}

// follows holds a function to P12.6, by what is told of it alone.
func follows(t *testing.T, f api.Func) {
	t.Helper()
	reached, blocks := flow.Reach(f), flow.Blocks(f)
	led := make([]bool, len(reached))
	for u, v := range flow.Edges(f) {
		if !reached[u] || !reached[v] {
			t.Fatalf("%s: an edge from %d to %d, but one of them can't be reached", short(f.Code), u, v)
		}
		led[v] = led[v] || u != v
	}
	for v, ok := range reached {
		if !ok {
			continue
		}
		if v != 0 && !led[v] {
			t.Fatalf("%s: %d can be reached, but no other one leads to it", short(f.Code), v)
		}
		for _, to := range flow.Next(f, v) {
			if !reached[to] {
				t.Fatalf("%s: %d can be reached and leads to %d, which can't be", short(f.Code), v, to)
			}
		}
		inBlock(t, f, v, reached, blocks)
	}
	rising(t, f, reached, blocks)
}

// inBlock holds an instruction that can be reached to lying in the block that begins last at it or ahead of it.
func inBlock(t *testing.T, f api.Func, v int, reached []bool, blocks []int) {
	t.Helper()
	begin := -1
	for _, b := range blocks {
		if b <= v {
			begin = b
		}
	}
	if begin < 0 {
		t.Fatalf("%s: %d lies in no block", short(f.Code), v)
	}
	for i := begin; i < v; i++ {
		if !reached[i] || !slices.Equal(flow.Next(f, i), []int{i + 1}) {
			t.Fatalf("%s: %d lies in the block %d, but %d doesn't lead to the next one alone", short(f.Code), v, begin, i)
		}
	}
}

// rising holds blocks to beginning at what can be reached, at 0 first, each above the one ahead of it.
func rising(t *testing.T, f api.Func, reached []bool, blocks []int) {
	t.Helper()
	for i, b := range blocks {
		if b < 0 || b >= len(reached) || !reached[b] || i == 0 && b != 0 || i > 0 && b <= blocks[i-1] {
			t.Fatalf("%s: the blocks %s", short(f.Code), short(blocks))
		}
	}
	if len(reached) > 0 && len(blocks) == 0 {
		t.Fatalf("%s: no blocks", short(f.Code))
	}
}

// P12.6: functions at random, held against what follows, and against the model.
func TestRandom(t *testing.T) {
	k := maker{rand.New(rand.NewPCG(12, 7))}
	var all, some, few, long int
	for range 6000 {
		f := k.function()
		follows(t, f)
		if len(f.Code) <= 40 || k.IntN(20) == 0 {
			against(t, f)
		}
		n := len(marks(flow.Reach(f)))
		switch {
		case n == len(f.Code):
			all++
		case n == 1:
			few++
		default:
			some++
		}
		if n > 100 {
			long++
		}
	}
	if all < 200 || some < 200 || few < 200 || long < 50 {
		t.Errorf("the test's own functions: %d whole, %d in part, %d but the first, %d long", all, some, few, long)
	}
}

// every goes through all codes of some instructions of a list.
func every(list []api.Ins, code []api.Ins, at int, do func(f api.Func)) {
	if at == len(code) {
		do(api.Func{Code: code})
		return
	}
	for _, x := range list {
		code[at] = x
		every(list, code, at+1, do)
	}
}

// P12.1 to P12.6: all short codes of instructions that lead on in each way, to each place.
func TestEveryShort(t *testing.T) {
	for length := range 5 {
		list := []api.Ins{ret, set}
		for n := range length {
			list = append(list, jump(int64(n)), when(int64(n)))
		}
		if length < 4 {
			list = append(list, api.Ins{Op: 20, N: 1}, jump(-1), when(-1), jump(int64(length)), when(int64(length)), step(0), count(1), unless(2))
		}
		every(list, make([]api.Ins, length), 0, func(f api.Func) {
			against(t, f)
			follows(t, f)
		})
	}
}

// P12.6: the functions of other tests.
func TestFollows(t *testing.T) {
	for _, f := range many(8) {
		follows(t, f)
	}
}

// read makes a function of bytes: two of them an instruction.
func read(b []byte) api.Func {
	var f api.Func
	for ; len(b) >= 2 && len(f.Code) < api.MaxCode; b = b[2:] {
		f.Code = append(f.Code, api.Ins{Op: int(b[0])%24 - 2, N: int64(int8(b[1]))})
	}
	return f
}

func FuzzAgainstModel(f *testing.F) {
	f.Add([]byte{})
	f.Add([]byte{19, 4, 17, 3, 5, 0, 20, 0, 2, 0, 16, 5})
	f.Add([]byte{2, 0})
	f.Add([]byte{16, 0, 16, 0})
	f.Fuzz(func(t *testing.T, b []byte) {
		against(t, read(b))
		follows(t, read(b))
	})
}
