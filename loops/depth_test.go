package loops_test

import (
	"math/rand/v2"
	"testing"

	"soffit/api"
	"soffit/loops"
)

// depth holds a list and a number to how many loops have it.
func depth(t *testing.T, what string, l []api.Loop, at, want int) {
	t.Helper()
	if n := loops.Depth(l, at); n != want {
		t.Errorf("%s: Depth(%s, %d): %d, not %d", what, short(l), at, n, want)
	}
}

// P14.2: of loops that Find tells.
func TestDepthOfFound(t *testing.T) {
	for _, c := range []struct {
		what string
		f    api.Func
		want []int
	}{
		{"no loop", of(pass, ret), []int{0, 0}},
		{"one", sample(), []int{1, 1, 1, 1, 0}},
		{"one within another", pair(), []int{1, 1, 2, 2, 2, 1, 0}},
		{"side by side", row(), []int{0, 1, 1, 1, 1, 0, 1, 1, 1, 1, 0}},
		{"three within one another", three(), []int{1, 1, 2, 2, 3, 3, 3, 3, 3, 2, 1, 0}},
		{"four within one another", four(), []int{1, 1, 2, 2, 3, 3, 4, 4, 4, 3, 2, 1, 0}},
	} {
		l, _, _ := loops.Find(c.f)
		for at, want := range c.want {
			depth(t, c.what, l, at, want)
		}
		for _, at := range []int{-1, -2, len(c.f.Code), len(c.f.Code) + 1, 1024, 1 << 32, most, least} {
			depth(t, c.what, l, at, 0)
		}
	}
}

// P14.2: of lists that are no loops': Members alone count, each list once, in whatever order they stand, whatever numbers they are.
func TestDepthOfAny(t *testing.T) {
	members := func(l ...int) api.Loop { return api.Loop{Members: l} }
	depth(t, "no list", nil, 0, 0)
	depth(t, "an empty list", []api.Loop{}, 0, 0)
	depth(t, "a loop without members", []api.Loop{{}}, 0, 0)
	depth(t, "a head that is no member", []api.Loop{{Head: 3, Parent: 3, Backs: []int{3}}}, 3, 0)
	depth(t, "a head that is another member", []api.Loop{{Head: 3, Parent: 3, Members: []int{4}, Backs: []int{3}}}, 3, 0)
	depth(t, "just one", []api.Loop{members(7)}, 7, 1)
	depth(t, "twice in one list", []api.Loop{members(7, 7)}, 7, 1)
	depth(t, "often in one list, with others between", []api.Loop{members(7, 1, 7, 2, 7)}, 7, 1)
	depth(t, "in two lists that are the same", []api.Loop{members(7), members(7)}, 7, 2)
	depth(t, "in all of many", make1000(members(2, 1)), 1, 1000)
	depth(t, "in lists that do not lie within one another", []api.Loop{members(1, 2), members(2, 3), members(3, 1)}, 2, 2)
	falling := []api.Loop{members(9, 8, 5, 3, 1, 0)}
	mixed := []api.Loop{members(5, 0, 9, 1, 8, 3)}
	for _, at := range []int{9, 8, 5, 3, 1, 0} {
		depth(t, "falling", falling, at, 1)
		depth(t, "mixed", mixed, at, 1)
	}
	for _, at := range []int{-1, 2, 4, 6, 7, 10} {
		depth(t, "not among the falling", falling, at, 0)
		depth(t, "not among the mixed", mixed, at, 0)
	}
	for _, at := range []int{-1, -2, least, most, 1024, 1025, 1 << 32} {
		depth(t, "a number that is no instruction's", []api.Loop{members(at), members(0, at, 1), members(0)}, at, 2)
		depth(t, "and not there", []api.Loop{members(0), members(1, 2)}, at, 0)
	}
	depth(t, "the first of one, the last of another", []api.Loop{members(4, 5, 6), members(2, 3, 4)}, 4, 2)
	depth(t, "Parents do not matter", []api.Loop{{Parent: -9, Members: []int{4}}, {Parent: 1 << 40, Members: []int{4}}}, 4, 2)
}

func make1000(x api.Loop) []api.Loop {
	var l []api.Loop
	for range 1000 {
		l = append(l, x)
	}
	return l
}

// P14.2: lists at random, against a count of all members.
func TestDepthAtRandom(t *testing.T) {
	k := rand.New(rand.NewPCG(14, 1))
	for range 3000 {
		var l []api.Loop
		tally := map[int]map[int]bool{}
		for i := range k.IntN(6) {
			x := api.Loop{Head: k.IntN(9), Parent: k.IntN(3) - 1, Backs: []int{k.IntN(9)}}
			for range k.IntN(8) {
				v := k.IntN(12) - 3
				x.Members = append(x.Members, v)
				if tally[v] == nil {
					tally[v] = map[int]bool{}
				}
				tally[v][i] = true
			}
			l = append(l, x)
		}
		for at := -4; at < 12; at++ {
			depth(t, "at random", l, at, len(tally[at]))
		}
	}
}
