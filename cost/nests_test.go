package cost_test

import (
	"math/big"
	"slices"
	"testing"

	"soffit/api"
	"soffit/cost"
)

// nest is loops within one another that count from 0 to constants; ahead of each inner one, and behind it, stands what weighs.
type nest struct {
	rounds int64
	ahead  []int
	inner  *nest
	behind []int
}

// write puts a nest's code, with two registers for each loop.
func (n *nest) write(code []api.Ins, register int) []api.Ins {
	code = append(code, api.Ins{Op: api.OpSet, A: register}, api.Ins{Op: api.OpSet, A: register + 1, N: n.rounds})
	head := len(code)
	code = append(code, api.Ins{Op: api.OpCount, A: register, B: register + 1})
	code = weigh(code, n.ahead)
	if n.inner != nil {
		code = n.inner.write(code, register+2)
	}
	code = weigh(code, n.behind)
	code = append(code, api.Ins{Op: api.OpStep, A: register, N: int64(head)})
	code[head].N = int64(len(code))
	return code
}

// weigh puts instructions that write no register of a loop, and divide by no 0.
func weigh(code []api.Ins, ops []int) []api.Ins {
	for _, op := range ops {
		code = append(code, api.Ins{Op: op, A: 62})
	}
	return code
}

// reckoned is what one reckons: two sets and, in each round, a count, what lies within, and a step; and a count to leave.
func (n *nest) reckoned() *big.Int {
	within := big.NewInt(0)
	for _, op := range append(slices.Clone(n.ahead), n.behind...) {
		within.Add(within, big.NewInt(weight(op)))
	}
	if n.inner != nil {
		within.Add(within, n.inner.reckoned())
	}
	within.Add(within, big.NewInt(2))
	within.Mul(within, big.NewInt(n.rounds))
	return within.Add(within, big.NewInt(3))
}

// module is one of a nest alone, and a ret.
func (n *nest) module() api.Module {
	code := append(n.write(nil, 1), api.Ins{Op: api.OpRet})
	return api.Module{Funcs: []api.Func{{Name: "f", Regs: 64, Params: []api.Span{s(1, 9)}, Code: code}}}
}

// reckonedAs holds a nest's Steps to what one reckons.
func reckonedAs(t *testing.T, n *nest) {
	t.Helper()
	want := n.reckoned()
	want.Add(want, big.NewInt(1))
	m := n.module()
	l, fault := cost.Of(m)
	if fault.E != api.OK || len(l) != 1 || want.Cmp(big.NewInt(l[0].Steps)) != 0 {
		t.Fatalf("Of(%s): %v, %v, not %v", short(m), l, fault, want)
	}
}

// P18.3: all nests of one to three loops with few rounds each, of none too, are what one reckons.
func TestReckonedSmall(t *testing.T) {
	ops := [][]int{nil, {api.OpMul}, {api.OpNot, api.OpDiv}, {api.OpRem, api.OpSet, api.OpMove}}
	nests := 0
	for depth := 1; depth <= 3; depth++ {
		row := make([]int, depth)
		every(5, row, 0, func() {
			for i := range ops {
				var n *nest
				for at, rounds := range row {
					n = &nest{rounds: int64(rounds), ahead: ops[(i+at)%len(ops)], inner: n, behind: ops[(i*3+at*2)%len(ops)]}
				}
				reckonedAs(t, n)
				nests++
			}
		})
	}
	if nests != 4*(5+25+125) {
		t.Errorf("the test's own nests: %d", nests)
	}
}

// P18.3: nests at random, of many loops and rounds, are what one reckons.
func TestReckonedLarge(t *testing.T) {
	k := newMaker(30)
	deep, great := 0, 0
	for range 500 {
		depth := 1 + k.IntN(30)
		var n *nest
		for range depth {
			n = &nest{rounds: k.Int64N(1 << (1 + k.IntN(60/depth+1))), inner: n}
			for range k.IntN(4) {
				n.ahead = append(n.ahead, []int{api.OpSet, api.OpAdd, api.OpMul, api.OpEqual, api.OpNot, api.OpRem}[k.IntN(6)])
				n.behind = append(n.behind, []int{api.OpMove, api.OpSub, api.OpDiv, api.OpLess, api.OpSet, api.OpMul}[k.IntN(6)])
			}
		}
		if n.reckoned().Cmp(big.NewInt(most/64)) > 0 {
			continue
		}
		reckonedAs(t, n)
		if depth > 20 {
			deep++
		}
		if n.reckoned().Cmp(big.NewInt(1<<40)) > 0 {
			great++
		}
	}
	if deep < 10 || great < 10 {
		t.Errorf("the test's own nests: %d, %d", deep, great)
	}
}

// P18.3: a function that calls stands above what it calls, by its own.
func TestAbove(t *testing.T) {
	m := text("func f 7 9", "if 0 2", "call 0 0 1", "div 1 1 1", "ret 0", "func g 2 3", "mul 0 0 0", "ret 0", "func h 1 0", "call 0 0 0", "ret 0")
	l, fault := cost.Of(m)
	if fault.E != api.OK {
		t.Fatal(fault)
	}
	follows(t, m, l)
	if l[0].Frames != l[1].Frames+1 || l[2].Frames != l[0].Frames+1 || l[0].Words != l[1].Words+16 || l[2].Words != l[0].Words+1 || l[0].Steps < l[1].Steps+5 || l[2].Steps != l[0].Steps+5 {
		t.Errorf("%v", l)
	}
}
