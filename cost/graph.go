package cost

import (
	"soffit/api"
	"soffit/code"
	"soffit/flow"
	"soffit/wide"
)

// graph is a function's code without its ways back.
type graph struct {
	// ahead are the instructions to which edges ahead lead from each one.
	ahead [][]int
	// turn is all that can be reached, each one behind all that lead ahead to it.
	turn []int
	// weights are those of what can be reached.
	weights []api.Wide
}

func graphOf(m api.Module, fn int, l []api.Loop, all []api.Ceiling) graph {
	f := m.Funcs[fn]
	g := graph{ahead: edgesAhead(f, l), weights: make([]api.Wide, len(f.Code))}
	g.turn = inTurn(g.ahead)
	for _, at := range g.turn {
		x := f.Code[at]
		g.weights[at] = wide.Of(uint64(code.Weight(x.Op)))
		if x.Op == api.OpCall {
			g.weights[at] = sum(g.weights[at], wide.Of(uint64(all[x.N].Steps)))
		}
	}
	return g
}

// edgesAhead are all edges but those back, by where they begin.
func edgesAhead(f api.Func, l []api.Loop) [][]int {
	// A way back begins at a step, which leads nowhere else.
	back := make([]bool, len(f.Code))
	for _, loop := range l {
		for _, u := range loop.Backs {
			back[u] = true
		}
	}
	ahead := make([][]int, len(f.Code))
	for u, v := range flow.Edges(f) {
		if !back[u] {
			ahead[u] = append(ahead[u], v)
		}
	}
	return ahead
}

// inTurn takes each instruction when all that lead ahead to it are taken; ahead alone nothing comes round, and what can be reached can be so without going back.
func inTurn(ahead [][]int) []int {
	waits := make([]int, len(ahead))
	for _, targets := range ahead {
		for _, v := range targets {
			waits[v]++
		}
	}
	turn := []int{0}
	for i := 0; i < len(turn); i++ {
		for _, v := range ahead[turn[i]] {
			if waits[v]--; waits[v] == 0 {
				turn = append(turn, v)
			}
		}
	}
	return turn
}
