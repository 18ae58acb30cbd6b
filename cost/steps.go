package cost

import (
	"cmp"
	"slices"

	"soffit/api"
	"soffit/trips"
	"soffit/wide"
)

// longest tells a function's Steps; or false, and the first instruction of a number that is above the greatest ceiling.
func longest(m api.Module, fn int, l []api.Loop, all []api.Ceiling) (int64, int, bool) {
	g := graphOf(m, fn, l, all)
	spins, behind := make([]api.Wide, len(g.ahead)), make([]api.Wide, len(g.ahead))
	work := g.worker(spins, behind)
	// Nothing is wrong any more that trips could tell.
	rounds, _ := trips.Of(m, fn)
	for _, i := range innerFirst(l) {
		if at, ok := work(l[i].Members); !ok {
			return 0, at, false
		}
		// One round is what is behind a member, which fits, so that all rounds have room.
		spin, _ := wide.Times(greatest(behind, l[i].Backs), rounds[i])
		if !fits(spin) {
			return 0, l[i].Head, false
		}
		spins[l[i].Head] = spin
	}
	if at, ok := work(slices.Sorted(slices.Values(g.turn))); !ok {
		return 0, at, false
	}
	steps, _ := wide.Fits(greatest(behind, g.rets(m.Funcs[fn])))
	return steps, 0, true
}

// worker makes the closure that works a region out, over the spins that stand already: it puts down what is behind each of the region's members, or tells the first one that takes too much. The spin of a region's own loop doesn't stand as yet, so that the way to its head takes nothing.
func (g graph) worker(spins, behind []api.Wide) func(members []int) (int, bool) {
	inside, arrive := make([]bool, len(g.ahead)), make([]api.Wide, len(g.ahead))
	return func(members []int) (int, bool) {
		clear(inside)
		clear(arrive)
		for _, x := range members {
			inside[x] = true
		}
		for _, u := range g.turn {
			if !inside[u] {
				continue
			}
			arrive[u] = sum(arrive[u], spins[u])
			behind[u] = sum(arrive[u], g.weights[u])
			for _, v := range g.ahead[u] {
				arrive[v] = greater(arrive[v], behind[u])
			}
		}
		for _, x := range members {
			// It takes no more to come to a member than what is behind it.
			if !fits(behind[x]) {
				return x, false
			}
		}
		return 0, true
	}
}

// innerFirst are the loops' numbers, by how many members they have; of such with as many the lesser head, by which they stand, is first.
func innerFirst(l []api.Loop) []int {
	order := make([]int, len(l))
	for i := range order {
		order[i] = i
	}
	slices.SortStableFunc(order, func(a, b int) int {
		return cmp.Compare(len(l[a].Members), len(l[b].Members))
	})
	return order
}

// rets are those that can be reached.
func (g graph) rets(f api.Func) []int {
	var list []int
	for _, at := range g.turn {
		if f.Code[at].Op == api.OpRet {
			list = append(list, at)
		}
	}
	return list
}

// sum has room: the numbers of a region are made of at most 1024 weights and as many spins, each below 2^64.
func sum(a, b api.Wide) api.Wide {
	c, _ := wide.Add(a, b)
	return c
}

func greater(a, b api.Wide) api.Wide {
	if wide.Compare(a, b) < 0 {
		return b
	}
	return a
}

func greatest(list []api.Wide, places []int) api.Wide {
	var most api.Wide
	for _, at := range places {
		most = greater(most, list[at])
	}
	return most
}

func fits(a api.Wide) bool {
	_, ok := wide.Fits(a)
	return ok
}
