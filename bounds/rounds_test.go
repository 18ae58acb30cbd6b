package bounds_test

import (
	"testing"

	"soffit/api"
)

// P16.2: it is the instruction that is joined so many times, whichever of its registers are changed.
func TestJoinedTogether(t *testing.T) {
	// To 10 comes 1 in one register more each time.
	lines := []string{"func f 10 0 -9 9 -9 9 -9 9 -9 9 -9 9", "if 0 10", "set 5 1", "if 1 10", "set 6 1", "if 2 10", "set 7 1", "if 3 10", "set 8 1", "if 4 10", "set 9 1", "ret 0"}
	for head, last := range map[string]api.Span{"widen": s(0, most), "widen -7 3": s(0, 3), "widen 0 1 2": s(0, 1)} {
		a := done(t, head, text(append([]string{head}, lines...)...), 0)
		r := s(-9, 9)
		stands(t, head, a, 10, r, r, r, r, r, s(0, 1), s(0, 1), s(0, 1), s(0, 1), last)
		changed(t, head, a, 10, 0, 0, 0, 0, 0, 1, 1, 1, 1, 1)
	}
	// Two at once are one time.
	m := text("widen 2", "func f 4 0 -9 9", "set 1 0", "set 1 1", "set 2 -1", "if 0 5", "jump 5", "jump 0")
	a := done(t, "two at once", m, 0)
	stands(t, "two at once", a, 0, s(-9, 9), s(0, 1), s(-1, 0), n(0))
	changed(t, "two at once", a, 0, 0, 1, 1, 0)
	m = text("func f 3 0 1 1", "add 1 1 0", "sub 2 2 0", "jump 0")
	a = done(t, "two at once, again and again", m, 0)
	for at := range 3 {
		stands(t, "two at once, again and again", a, at, n(1), all, all)
	}
	changed(t, "two at once, again and again", a, 0, 0, 6, 6)
}

// P16.2: a round goes by rising number, and a mark on a later instruction counts in it still.
func TestRising(t *testing.T) {
	// Three arms, of which the first one is the longest, meet at 11.
	arms := func(first, second, third int64) api.Module {
		m := text("func f 3 0 -1 1 -1 1", "if 0 6", "set 2 0", "jump 3", "jump 4", "jump 5", "jump 11", "if 1 9", "set 2 0", "jump 11", "set 2 0", "jump 11", "ret 2")
		m.Funcs[0].Code[1].N, m.Funcs[0].Code[7].N, m.Funcs[0].Code[9].N = first, second, third
		return m
	}
	for _, c := range []struct {
		first, second, third int64
		changes              int
	}{{5, 1, 3, 1}, {3, 1, 5, 2}, {5, 3, 1, 2}, {1, 5, 3, 1}, {3, 5, 1, 2}, {1, 3, 5, 2}, {1, 1, 5, 1}, {1, 5, 1, 1}, {5, 5, 5, 0}} {
		a := done(t, "arms", arms(c.first, c.second, c.third), 0)
		low, high := min(c.first, c.second, c.third), max(c.first, c.second, c.third)
		stands(t, "arms", a, 11, s(-1, 1), s(-1, 1), s(low, high))
		changed(t, "arms", a, 11, 1, 0, c.changes)
	}
}

// P16.2: a mark on an earlier instruction counts in the next round: what is behind a loop is come to in each round of it.
func TestBack(t *testing.T) {
	a := done(t, "behind a loop", text("func f 3 0 -3 9", "count 1 0 2", "step 1 0", "set 2 4", "ret 1"), 0)
	for at := range 4 {
		stands(t, "behind a loop", a, at, s(-3, 9), all, []api.Span{n(0), n(0), n(0), n(4)}[at])
		changed(t, "behind a loop", a, at, 0, 6, 0)
	}
	// Down by number and up again: 5 marks 3, which counts in the next round, as 4 is behind it in this one.
	a = done(t, "down", text("func f 2 0 0 1", "jump 5", "ret 1", "ret 1", "set 1 1", "ret 1", "if 0 3", "set 1 7", "jump 3"), 0)
	stands(t, "down", a, 3, s(0, 1), s(0, 7))
	changed(t, "down", a, 3, 1, 1)
	stands(t, "down", a, 4, s(0, 1), n(1))
	changed(t, "down", a, 4, 0, 0)
	// 7 marks 2, which is ahead of 3 in the next round.
	a = done(t, "down, ahead of it", text("func f 2 0 0 1", "jump 5", "ret 1", "jump 3", "move 1 1", "ret 1", "if 0 3", "set 1 7", "jump 2"), 0)
	stands(t, "down, ahead of it", a, 4, s(0, 1), s(0, 7))
	changed(t, "down, ahead of it", a, 3, 1, 1)
	changed(t, "down, ahead of it", a, 4, 0, 0)
	// 7 marks 2, and that in the next round 1, which comes to 3 a round later than 5 did.
	a = done(t, "down by two", text("func f 2 0 0 1", "jump 5", "jump 3", "jump 1", "move 1 1", "ret 1", "if 0 3", "set 1 7", "jump 2"), 0)
	stands(t, "down by two", a, 4, s(0, 1), s(0, 7))
	changed(t, "down by two", a, 3, 1, 1)
	changed(t, "down by two", a, 4, 1, 1)
}

// P16.2: a mark that an instruction lays on itself counts in the next round.
func TestItself(t *testing.T) {
	for _, c := range []struct {
		m       api.Module
		want    api.Span
		changes int
	}{
		{text("func f 1 0", "step 0 0"), all, 6},
		{text("widen 4", "func f 1 0", "step 0 0"), all, 6},
		{text("widen 5", "func f 1 0", "step 0 0"), all, 7},
		{text("widen 7", "func f 1 0 3 3", "step 0 0"), all, 6},
		{text("widen 8", "func f 1 0 3 3", "step 0 0"), all, 7},
		{text("func f 1 0 -9223372036854775808 9223372036854775807", "step 0 0"), all, 0},
		{text("func f 1 0 9223372036854775807 9223372036854775807", "step 0 0"), all, 1},
		{text("func f 1 0 9223372036854775806 9223372036854775806", "step 0 0"), all, 2},
		{text("func f 1 0 -2 2", "if 0 0", "ret 0"), s(-2, 2), 0},
		{text("func f 1 0 -2 2", "unless 0 0", "ret 0"), s(-2, 2), 0},
		{text("func f 1 0 -2 2", "jump 0"), s(-2, 2), 0},
		{text("func f 2 0 -2 2", "count 0 1 0", "ret 0"), s(-2, 2), 0},
	} {
		a := done(t, "itself", c.m, 0)
		if a.In[0][0] != c.want || a.Changes[0][0] != c.changes {
			t.Errorf("%v: %v, %v", c.m, a.In, a.Changes)
		}
	}
	// 3 comes to 1 in the same round, ahead of what 1 lays on itself: four Joins lead to 11 there, and 12 is above the threshold.
	a := done(t, "another one first", text("widen 8", "func f 2 0 0 1", "if 0 2", "step 1 1", "set 1 9", "jump 1"), 0)
	stands(t, "another one first", a, 1, s(0, 1), all)
	changed(t, "another one first", a, 1, 1, 6)
}

// P16.2: of a way that is one of two that lead to one place nothing is told.
func TestOnePlaceTwice(t *testing.T) {
	for _, line := range []string{"if 0 1", "unless 0 1", "count 0 1 1", "count 1 0 1", "count 0 0 1"} {
		for _, in := range [][]api.Span{l(n(0), n(0)), l(s(0, 4), s(0, 4)), l(n(5), s(-1, 3)), l(s(-4, 0), all)} {
			m := text("func f 2 0 0 0 0 0", line, "ret 0")
			m.Funcs[0].Params = in
			a := done(t, line, m, 0)
			stands(t, line, a, 1, in...)
			changed(t, line, a, 1, 0, 0)
		}
	}
}

// P16.2: both ways of a branch are gone with what each of them leaves.
func TestBothWays(t *testing.T) {
	a := done(t, "if", text("func f 1 0 0 4", "if 0 2", "ret 0", "ret 0"), 0)
	stands(t, "if", a, 1, n(0))
	stands(t, "if", a, 2, s(1, 4))
	a = done(t, "unless", text("func f 1 0 0 4", "unless 0 2", "ret 0", "ret 0"), 0)
	stands(t, "unless", a, 1, s(1, 4))
	stands(t, "unless", a, 2, n(0))
	a = done(t, "count", text("func f 2 0 0 9 3 5", "count 0 1 2", "ret 0", "ret 0"), 0)
	stands(t, "count", a, 1, s(0, 4), s(3, 5))
	stands(t, "count", a, 2, s(3, 9), s(3, 5))
	a = done(t, "they meet again", text("func f 1 0 0 4", "if 0 2", "jump 2", "ret 0"), 0)
	stands(t, "they meet again", a, 2, s(0, 4))
	changed(t, "they meet again", a, 2, 1)
}

// P16.2: of two loops within one another the outer one's count, by which the inner one is bound, is held by a threshold, and by none isn't.
func TestNested(t *testing.T) {
	lines := []string{"func f 4 0 0 9", "set 1 0", "count 1 0 7", "set 2 0", "count 2 1 6", "move 3 2", "step 2 3", "step 1 1", "ret 3"}
	a := done(t, "held", text(append([]string{"widen 0 9"}, lines...)...), 0)
	b := done(t, "not held", text(lines...), 0)
	for at := 3; at < 7; at++ {
		if a.In[at][1] != s(0, 9) || b.In[at][1] != all {
			t.Errorf("at %d stands %v, and without thresholds %v", at, a.In[at], b.In[at])
		}
	}
	if a.In[4][2].Hi > 9 || b.In[4][2].Hi < most-1 {
		t.Errorf("at 4 stands %v, and without thresholds %v", a.In[4], b.In[4])
	}
}
