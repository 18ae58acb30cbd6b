package flow_test

import (
	"testing"

	"soffit/api"
	"soffit/flow"
)

// How an operation leads on.
const (
	nowhere = iota
	behind
	named
	both
)

// kinds are the operations, as P12.1 sorts them.
var kinds = [20]int{
	api.OpRet: nowhere,
	api.OpSet: behind, api.OpMove: behind, api.OpAdd: behind, api.OpSub: behind, api.OpMul: behind, api.OpDiv: behind, api.OpRem: behind,
	api.OpLess: behind, api.OpEqual: behind, api.OpNot: behind, api.OpLoad: behind, api.OpStore: behind, api.OpCheck: behind, api.OpCall: behind,
	api.OpJump: named, api.OpStep: named,
	api.OpIf: both, api.OpUnless: both, api.OpCount: both,
}

// noOperations are below, just above and far above the operations; some are an operation's but for their upper bits.
var noOperations = []int{-1, -2, -14, -20, 20, 21, 22, 34, 255, 256, 256 + 14, 1<<32 + 14, 1<<32 + 3, most, most - 1, least, least + 14, least + 3}

// kindOf tells how an operation leads on; what is none leads nowhere.
func kindOf(op int) int {
	if op < 0 || op >= len(kinds) {
		return nowhere
	}
	return kinds[op]
}

// nextOf is what P12.1 says of an instruction of code of such a length.
func nextOf(x api.Ins, at, length int) []int {
	if at < 0 || at >= length {
		return nil
	}
	var l []int
	kind := kindOf(x.Op)
	if (kind == behind || kind == both) && at != length-1 {
		l = append(l, at+1)
	}
	there := x.N >= 0 && x.N <= int64(length)-1
	if kind == named && there || kind == both && there && x.N != int64(at+1) {
		l = append(l, int(x.N))
	}
	return l
}

// operations are all that there are, and some that are none.
func operations() []int { return append(upTo(20), noOperations...) }

// places are the first, some in the middle and the last instruction, and numbers beside them that are no instruction's.
func places(length int) []int {
	return []int{0, 1, 2, length / 2, length - 2, length - 1, length, length + 1, length + 100, -1, -2, -length, most, most - 1, least, least + 1, 1 << 32, -1 << 32}
}

// targets are this very instruction, those beside it, the first and the last ones, and numbers of none.
func targets(at, length int) []int64 {
	n, l := int64(at), int64(length)
	return []int64{n, n - 1, n + 1, n + 2, 0, 1, l - 2, l - 1, l, l + 1, -1, -2, -n, -l, least, least + 1, most, most - 1, 1 << 32, 1<<32 + 1, -1 << 32, 1<<63 - 1<<32}
}

// P12.1: each operation and what is none, at each place of codes of some lengths, with N at each kind of place.
func TestNext(t *testing.T) {
	for _, length := range []int{1, 2, 3, 4, 7, 1023, 1024, 1025, 3000} {
		// What stands at the other places does not matter: no instruction but this one does.
		f := api.Func{Code: times(length, jump(0))}
		for _, at := range places(length) {
			for _, op := range operations() {
				for _, n := range targets(at, length) {
					x := api.Ins{Op: op, A: 1, B: 2, C: 3, N: n}
					if at >= 0 && at < length {
						f.Code[at] = x
					}
					next(t, f, at, nextOf(x, at, length)...)
				}
			}
			if at >= 0 && at < length {
				f.Code[at] = jump(0)
			}
		}
	}
}

// P12.1: of no code nothing is an instruction.
func TestNextOfNoCode(t *testing.T) {
	for _, f := range []api.Func{{}, {Code: []api.Ins{}}, {Code: times(3, jump(0))[:0]}, {Name: "f", Params: make([]api.Span, 3), Regs: 5, Words: 5}} {
		for _, at := range []int{0, 1, 2, -1, least, most} {
			next(t, f, at)
		}
	}
}

// P12.1: answers by hand.
func TestNextByHand(t *testing.T) {
	for _, c := range []struct {
		f    api.Func
		at   int
		want []int
	}{
		{of(ret), 0, nil},
		{of(ret, ret, ret), 1, nil},
		{of(api.Ins{Op: api.OpRet, N: 1}, ret), 0, nil},
		{of(set, ret), 0, []int{1}},
		{of(set, set, ret), 1, []int{2}},
		{of(set, set, set), 2, nil},
		{of(api.Ins{Op: api.OpSet, N: 0}, ret), 0, []int{1}},
		{of(api.Ins{Op: api.OpCall, N: 0}, ret), 0, []int{1}},
		{of(api.Ins{Op: api.OpLoad, N: 2}, ret, ret), 0, []int{1}},
		{of(api.Ins{Op: api.OpCheck, N: 2}, ret, ret), 0, []int{1}},
		{of(api.Ins{Op: api.OpStore, N: 2}, ret), 1, nil},
		{of(jump(0)), 0, []int{0}},
		{of(jump(1)), 0, nil},
		{of(jump(-1)), 0, nil},
		{of(set, jump(0), ret), 1, []int{0}},
		{of(set, jump(1), ret), 1, []int{1}},
		{of(set, jump(2), ret), 1, []int{2}},
		{of(set, jump(3), ret), 1, nil},
		{of(set, set, jump(2)), 2, []int{2}},
		{of(set, set, step(0)), 2, []int{0}},
		{of(step(0)), 0, []int{0}},
		{of(step(1), ret), 0, []int{1}},
		{of(step(2), ret), 0, nil},
		{of(step(least), ret), 0, nil},
		{of(step(most), ret), 0, nil},
		{of(when(0), ret), 0, []int{1, 0}},
		{of(when(1), ret), 0, []int{1}},
		{of(when(2), ret), 0, []int{1}},
		{of(when(-1), ret), 0, []int{1}},
		{of(when(most), ret), 0, []int{1}},
		{of(when(0)), 0, []int{0}},
		{of(when(1)), 0, nil},
		{of(set, unless(0), ret), 1, []int{2, 0}},
		{of(set, unless(1), ret), 1, []int{2, 1}},
		{of(set, unless(2), ret), 1, []int{2}},
		{of(set, unless(3), ret), 1, []int{2}},
		{of(set, unless(0)), 1, []int{0}},
		{of(set, unless(1)), 1, []int{1}},
		{of(set, unless(2)), 1, nil},
		{of(set, count(0), ret, ret), 1, []int{2, 0}},
		{of(set, count(3), ret, ret), 1, []int{2, 3}},
		{of(set, set, set, count(3)), 3, []int{3}},
		{of(set, set, set, count(4)), 3, nil},
		{of(count(1<<32), ret), 0, []int{1}},
		{of(count(1<<32+1), ret), 0, []int{1}},
		{of(jump(1<<32), ret), 0, nil},
		{of(api.Ins{Op: 20, N: 1}, ret), 0, nil},
		{of(api.Ins{Op: -1, N: 1}, ret), 0, nil},
		{of(api.Ins{Op: 256 + api.OpJump, N: 1}, ret), 0, nil},
	} {
		next(t, c.f, c.at, c.want...)
	}
}

// The sorts of this test are those that P12.1 lists.
func TestKinds(t *testing.T) {
	for kind, want := range []int{nowhere: 1, behind: 14, named: 2, both: 3} {
		n := 0
		for _, k := range kinds {
			if k == kind {
				n++
			}
		}
		if n != want {
			t.Errorf("%d operations lead on by %d, not %d", n, kind, want)
		}
	}
}

// P12.5: Next tells of long code what it always does.
func TestNextOfLongCode(t *testing.T) {
	for _, length := range []int{1023, 1024, 1025, 1026, 5000, 70000} {
		f := api.Func{Code: times(length, set)}
		f.Code[0] = jump(int64(length) - 1)
		f.Code[length-2] = count(0)
		next(t, f, 0, length-1)
		next(t, f, 1, 2)
		next(t, f, 1020, 1021)
		next(t, f, length-3, length-2)
		next(t, f, length-2, length-1, 0)
		next(t, f, length-1)
		next(t, f, length)
		if l := flow.Next(f, length/2); len(l) != 1 || l[0] != length/2+1 {
			t.Errorf("Next in the middle of %d instructions: %v", length, l)
		}
	}
}
