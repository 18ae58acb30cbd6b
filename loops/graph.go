package loops

import (
	"soffit/api"
	"soffit/dom"
	"soffit/flow"
)

// graph is a function's edges, by instruction.
type graph struct {
	// from are all that lead to it, ahead and back.
	from [][]int
	// backs are those from which a back edge goes to it, by rising number.
	backs [][]int
	// ahead are those to which it leads by edges that are no back edges.
	ahead [][]int
	// fromAbove tells of each instruction whether an edge ahead leads to it from a greater number.
	fromAbove []bool
}

func graphOf(f api.Func) graph {
	n := len(f.Code)
	g := graph{from: make([][]int, n), backs: make([][]int, n), ahead: make([][]int, n), fromAbove: make([]bool, n)}
	tree := dom.Tree(f)
	for u, v := range flow.Edges(f) {
		g.from[v] = append(g.from[v], u)
		if dominates(tree, v, u) {
			g.backs[v] = append(g.backs[v], u)
			continue
		}
		g.ahead[u] = append(g.ahead[u], v)
		g.fromAbove[v] = g.fromAbove[v] || u > v
	}
	return g
}

// dominates climbs from b, as dom.Dominates would work out the whole tree again for each edge.
func dominates(tree []int, a, b int) bool {
	for b >= 0 && b != a {
		b = tree[b]
	}
	return b == a
}

// knot tells the least instruction from which a way ahead leads to itself; -1: none.
func (g graph) knot() int {
	for v, ok := range g.fromAbove {
		// The least one of a round way is come back to from a greater number.
		if ok && g.returns(v) {
			return v
		}
	}
	return -1
}

// returns tells whether a way ahead leads from an instruction to itself, through greater ones alone.
func (g graph) returns(first int) bool {
	seen := make([]bool, len(g.ahead))
	waiting := []int{first}
	for len(waiting) > 0 {
		last := len(waiting) - 1
		at := waiting[last]
		waiting = waiting[:last]
		for _, v := range g.ahead[at] {
			if v == first {
				return true
			}
			if v > first && !seen[v] {
				seen[v] = true
				waiting = append(waiting, v)
			}
		}
	}
	return false
}

// members goes against the edges from where a head's back edges begin, and not on beyond the head.
func (g graph) members(h int) set {
	in := set{}
	in.add(h)
	waiting := []int{h}
	for len(waiting) > 0 {
		last := len(waiting) - 1
		at := waiting[last]
		waiting = waiting[:last]
		from := g.from[at]
		if at == h {
			from = g.backs[h]
		}
		for _, u := range from {
			if !in.has(u) {
				in.add(u)
				waiting = append(waiting, u)
			}
		}
	}
	return in
}
