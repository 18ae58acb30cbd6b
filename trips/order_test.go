package trips_test

import "testing"

// P17.1: functions without loops have no trips.
func TestNoLoops(t *testing.T) {
	told(t, "a ret", text("func f 1 0", "ret 0"), 0)
	told(t, "straight on", text("func f 2 0 0 9", "set 1 5", "add 1 1 0", "ret 1"), 0)
	told(t, "a count that isn't come back to", text("func f 2 0 0 9", "count 1 0 2", "step 1 2", "ret 1"), 0)
	told(t, "branches", text("func f 2 0 0 9", "if 0 3", "unless 0 3", "jump 3", "ret 1"), 0)
	told(t, "a loop that isn't reached", text("func f 2 0 0 9", "ret 0", "count 1 0 3", "step 1 1", "ret 0"), 0)
	told(t, "a loop of another function", text("func f 2 0 0 9", "call 1 0 1", "ret 0", "func g 2 0 0 9", "count 1 0 2", "step 1 0", "ret 0"), 0)
}

// P17.1: one number for each loop, in the order of chapter 14: by rising head.
func TestSeveral(t *testing.T) {
	behind := text("func f 4 0 3 5 -2 8", "count 2 0 2", "step 2 0", "set 3 1", "count 3 1 5", "step 3 3", "ret 0")
	told(t, "one behind the other", behind, 0, 5, 7)
	within := text("func f 4 0 3 5 -2 8", "count 2 0 6", "set 3 2", "count 3 1 5", "check 0 9", "step 3 2", "step 2 0", "ret 0")
	told(t, "one within the other", within, 0, 5, 6)
	told(t, "the inner one's bound is the outer one's count", text("func f 3 0 3 5", "set 1 -1", "count 1 0 6", "set 2 -3", "count 2 1 5", "step 2 3", "step 1 1", "ret 0"), 0, 6, 7)
	told(t, "the inner one's count is the outer one's bound", text("func f 4 0 3 5 9 9", "count 2 0 5", "move 3 0", "count 3 1 4", "step 3 2", "step 2 0", "ret 0"), 0, 5, 6)
	told(t, "the inner head right behind the outer one", text("func f 3 0 3 5", "count 1 0 4", "count 2 1 3", "step 2 1", "step 1 0", "ret 0"), 0, 5, 4)
	told(t, "the inner head by a lower number", text("func f 4 0", "set 1 7", "set 3 3", "jump 6", "count 2 3 5", "step 2 3", "step 0 6", "count 0 1 9", "set 2 0", "jump 3", "ret 0"), 0, 3, 7)
	told(t, "three within one another", text("widen 4 5", "func f 4 0 2 6", "count 1 0 8", "set 2 0", "count 2 1 7", "set 3 -1", "count 3 2 6", "step 3 4", "step 2 2", "step 1 0", "ret 0"), 0, 6, 5, 5)
	told(t, "two within another one", text("func f 4 0 2 6", "count 1 0 8", "set 2 0", "count 2 1 4", "step 2 2", "set 3 -1", "count 3 2 7", "step 3 5", "step 1 0", "ret 0"), 0, 6, 5, 1<<63)
}

// P17.1: with thresholds the inner loop's bound grows no further than them.
func TestThresholds(t *testing.T) {
	lines := []string{"widen", "func f 4 0 2 6", "count 1 0 8", "set 2 0", "count 2 1 4", "step 2 2", "set 3 -1", "count 3 2 7", "step 3 5", "step 1 0", "ret 0"}
	told(t, "none", text(lines...), 0, 6, 5, 1<<63)
	lines[0] = "widen 8"
	told(t, "8", text(lines...), 0, 6, 5, 9)
	lines[0] = "widen -7 4 6 1000"
	told(t, "6", text(lines...), 0, 6, 5, 7)
}

// P17.1: a loop that is never gone into has none within it come into.
func TestNeverGoneInto(t *testing.T) {
	told(t, "a bound of 0", text("func f 4 0 0 0 5 9", "count 2 0 5", "set 3 0", "count 3 1 4", "step 3 2", "step 2 0", "ret 0"), 0, 0, 0)
	told(t, "a bound of 1", text("func f 4 0 1 1 5 9", "count 2 0 5", "set 3 0", "count 3 1 4", "step 3 2", "step 2 0", "ret 0"), 0, 1, 9)
	told(t, "and another one behind", text("func f 4 0 0 0 5 9", "count 2 0 5", "set 3 0", "count 3 1 4", "step 3 2", "step 2 0", "count 2 1 7", "step 2 5", "ret 0"), 0, 0, 0, 9)
	told(t, "nothing comes to any", text("func f 4 0 4 8 5 9", "check 0 4", "count 2 0 6", "set 3 0", "count 3 1 5", "step 3 3", "step 2 1", "ret 0"), 0, 0, 0)
}

// P17.1: from the count's least number to the bound's greatest one; what else they may be does not matter.
func TestLengths(t *testing.T) {
	m := text("func f 2 0 0 0 0 0", "count 0 1 2", "step 0 0", "ret 0")
	for _, c := range []struct {
		aLo, aHi, bLo, bHi int64
		want               uint64
	}{
		{0, 0, 0, 0, 0}, {0, 0, 1, 1, 1}, {0, 0, -1, -1, 0}, {0, 0, -9, 1, 1}, {0, 9, 1, 1, 1}, {-4, 9, -4, 9, 13}, {5, 5, 5, 5, 0}, {5, 6, 5, 5, 0}, {5, 6, 5, 6, 1}, {5, 6, 6, 6, 1}, {6, 6, 5, 5, 0},
		{least, least, least, least, 0}, {least, least, least, least + 1, 1}, {least, least, least + 1, least + 1, 1}, {least, most, least, least, 0}, {least, most, least, least + 2, 2},
		{most, most, most, most, 0}, {most - 1, most - 1, most, most, 1}, {most - 1, most, most, most, 1}, {most, most, least, most, 0}, {most, most, least, least, 0},
		{0, 0, most, most, most}, {-1, -1, most, most, 1 << 63}, {-1, -1, most - 1, most - 1, most}, {1, 1, most, most, most - 1}, {0, most, least, most, most},
		{least, least, 0, 0, 1 << 63}, {least, least, -1, -1, most}, {least, least, 1, 1, 1<<63 + 1}, {least + 1, 0, 0, 0, most},
		{least, least, most, most, endless}, {least, most, least, most, endless}, {least, -5, 5, most, endless}, {least + 1, least + 1, most, most, endless - 1}, {least, least, most - 1, most - 1, endless - 1}, {least + 1, most, least, most - 1, endless - 2},
		{-1 << 32, 0, 0, 1 << 32, 1 << 33}, {1 << 32, 1 << 32, 0, 1<<32 + 7, 7}, {-1 << 62, 0, 0, 1 << 62, 1 << 63},
	} {
		m.Funcs[0].Params[0], m.Funcs[0].Params[1] = s(c.aLo, c.aHi), s(c.bLo, c.bHi)
		told(t, "from the beginning", m, 0, c.want)
		behind := text("func f 4 0 0 0 0 0", "move 2 0", "move 3 1", "count 2 3 4", "step 2 2", "ret 0")
		behind.Funcs[0].Params = m.Funcs[0].Params
		told(t, "behind moves", behind, 0, c.want)
	}
}
