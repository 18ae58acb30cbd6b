package trips_test

import "testing"

// P17.1: each operation as the way into a loop: what comes in is what bounds.Edge tells behind it, on the way to the head.
func TestWayIn(t *testing.T) {
	for _, c := range []struct {
		what string
		want uint64
		text []string
	}{
		{"set, the bound", 12, []string{"func f 2 0", "set 1 12", "count 0 1 3", "step 0 1", "ret 0"}},
		{"set, the count", 7, []string{"func f 2 0 5 12", "set 1 5", "count 1 0 3", "step 1 1", "ret 0"}},
		{"set, neither", 12, []string{"func f 3 0 5 12", "set 2 5", "count 1 0 3", "step 1 1", "ret 0"}},
		{"move", 8, []string{"func f 3 0 -4 8", "move 1 0", "count 2 1 3", "step 2 1", "ret 0"}},
		{"add, the count", 30, []string{"func f 4 0 -4 8 3 9", "set 3 29", "add 2 0 1", "count 2 3 4", "step 2 2", "ret 0"}},
		{"add, the bound", 17, []string{"func f 4 0 1 8 3 9", "add 2 0 1", "count 3 2 3", "step 3 1", "ret 0"}},
		{"sub", 5, []string{"func f 4 0 -4 8 3 9", "sub 2 0 1", "count 3 2 3", "step 3 1", "ret 0"}},
		{"sub, below", 0, []string{"func f 4 0 -4 3 3 9", "sub 2 0 1", "count 3 2 3", "step 3 1", "ret 0"}},
		{"mul", 72, []string{"func f 4 0 -4 8 3 9", "mul 2 0 1", "count 3 2 3", "step 3 1", "ret 0"}},
		{"mul, too much", most, []string{"func f 4 0 -4 4611686018427387904 2 9", "mul 2 0 1", "count 3 2 3", "step 3 1", "ret 0"}},
		{"div, its value", 30, []string{"func f 4 0 20 30 0 9", "div 2 0 1", "count 3 2 3", "step 3 1", "ret 0"}},
		{"div, what it divides by, from 0", 8, []string{"func f 4 0 9 9 0 9", "div 2 0 1", "count 1 0 3", "step 1 1", "ret 0"}},
		{"div, what it divides by, up to 0", 6, []string{"func f 4 0 -9 0 -7 -7", "div 2 1 0", "count 1 0 3", "step 1 1", "ret 0"}},
		{"rem, its value", 6, []string{"func f 4 0 20 30 0 7", "rem 2 0 1", "count 3 2 3", "step 3 1", "ret 0"}},
		{"rem, what it divides by", 8, []string{"func f 4 0 9 9 0 9", "rem 2 0 1", "count 1 0 3", "step 1 1", "ret 0"}},
		{"less", 1, []string{"func f 4 0 -4 8 3 9", "less 2 0 1", "count 3 2 3", "step 3 1", "ret 0"}},
		{"less, never", 0, []string{"func f 4 0 9 10 3 9", "less 2 0 1", "count 3 2 3", "step 3 1", "ret 0"}},
		{"equal", 1, []string{"func f 4 0 -4 8 3 9", "equal 2 0 1", "count 3 2 3", "step 3 1", "ret 0"}},
		{"not", 1, []string{"func f 3 0 -4 8", "not 1 0", "count 2 1 3", "step 2 1", "ret 0"}},
		{"not, never", 0, []string{"func f 3 0 1 8", "not 1 0", "count 2 1 3", "step 2 1", "ret 0"}},
		{"load, its value", most, []string{"func f 3 1", "load 1 0 0", "count 2 1 3", "step 2 1", "ret 0"}},
		{"load, its index", 4, []string{"func f 3 4 -9 99", "load 1 0 -1", "count 2 0 3", "step 2 1", "ret 0"}},
		{"load, its index, as the count", 8, []string{"func f 3 4 -9 99 9 9", "load 2 0 -1", "count 0 1 3", "step 0 1", "ret 0"}},
		{"load, both are one", most, []string{"func f 2 4 -9 99", "load 0 0 -1", "count 1 0 3", "step 1 1", "ret 0"}},
		{"store, its index", 10, []string{"func f 3 4 -9 99", "store 1 0 -7", "count 2 0 3", "step 2 1", "ret 0"}},
		{"store, its value", 99, []string{"func f 3 4 -9 99", "store 0 1 0", "count 2 0 3", "step 2 1", "ret 0"}},
		{"check", 3, []string{"func f 2 0 -9 99", "check 0 4", "count 1 0 3", "step 1 1", "ret 0"}},
		{"check, the count", 9, []string{"func f 2 0 -9 99 9 9", "check 0 4", "count 0 1 3", "step 0 1", "ret 0"}},
		{"call, its value", most, []string{"func f 3 0 -9 99", "call 1 0 1", "count 2 1 3", "step 2 1", "ret 0", "func g 1 0 2 5", "ret 0"}},
		{"call, its argument", 5, []string{"func f 3 0 -9 99", "call 1 0 1", "count 2 0 3", "step 2 1", "ret 0", "func g 1 0 2 5", "ret 0"}},
		{"call, its second argument", 7, []string{"func f 4 0 9 9 -9 99", "call 2 0 1", "count 1 0 3", "step 1 1", "ret 0", "func g 2 0 2 9 2 5", "ret 0"}},
		{"call of itself", 9, []string{"func f 3 0 2 9", "call 1 0 0", "count 2 0 3", "step 2 1", "ret 0"}},
		{"call of a function behind others", 4, []string{"func f 3 0 -9 99", "call 1 0 2", "count 2 0 3", "step 2 1", "ret 0", "func g 1 0 2 5", "ret 0", "func h 1 0 0 4", "jump 0"}},
		{"jump", 9, []string{"func f 2 0 -3 9", "jump 2", "ret 0", "count 1 0 4", "step 1 2", "ret 0"}},
		{"if to its target, from 0", 8, []string{"func f 2 0 0 9 9 9", "if 0 2", "ret 0", "count 0 1 4", "step 0 2", "ret 0"}},
		{"if to its target, from below", 12, []string{"func f 2 0 -3 9 9 9", "if 0 2", "ret 0", "count 0 1 4", "step 0 2", "ret 0"}},
		{"if to the next one", 5, []string{"func f 2 0 -3 9 5 5", "if 0 3", "count 0 1 3", "step 0 1", "ret 0"}},
		{"unless to its target", 5, []string{"func f 2 0 -3 9 5 5", "unless 0 2", "ret 0", "count 0 1 4", "step 0 2", "ret 0"}},
		{"unless to the next one", 8, []string{"func f 2 0 0 9 9 9", "unless 0 3", "count 0 1 3", "step 0 1", "ret 0"}},
		{"if by both of its ways", 9, []string{"func f 2 0 0 9 9 9", "if 0 1", "count 0 1 3", "step 0 1", "ret 0"}},
		{"unless by both of its ways", 9, []string{"func f 2 0 0 9 9 9", "unless 0 1", "count 0 1 3", "step 0 1", "ret 0"}},
		{"count by both of its ways", 30, []string{"func f 3 0 0 9 5 30", "count 0 1 1", "count 2 1 3", "step 2 1", "ret 0"}},
		{"count by both of its ways, the count", 30, []string{"func f 3 0 0 9 5 30", "count 0 1 1", "count 0 1 3", "step 0 1", "ret 0"}},
		{"count of itself, by both of its ways", 9, []string{"func f 2 0 0 9", "count 0 0 1", "count 1 0 3", "step 1 1", "ret 0"}},
		{"count that goes on", 4, []string{"func f 3 0 0 9 3 5", "count 0 1 3", "count 2 0 3", "step 2 1", "ret 0"}},
		{"count that goes out", 27, []string{"func f 3 0 0 9 3 5 30 30", "count 0 1 2", "ret 0", "count 0 2 4", "step 0 2", "ret 0"}},
		{"step", 24, []string{"func f 2 0 5 9 30 30", "step 0 2", "ret 0", "count 0 1 4", "step 0 2", "ret 0"}},
		{"step, the bound", 10, []string{"func f 2 0 5 9", "step 0 2", "ret 0", "count 1 0 4", "step 1 2", "ret 0"}},
	} {
		told(t, c.what, text(c.text...), 0, c.want)
	}
}

// P17.1: the ways by which a loop can't be entered: nothing comes in by them.
func TestNoWayIn(t *testing.T) {
	for _, c := range []struct {
		what string
		want uint64
		text []string
	}{
		{"if of 0 alone", 0, []string{"func f 2 0 0 0 9 9", "if 0 2", "ret 0", "count 0 1 4", "step 0 2", "ret 0"}},
		{"if of no 0", 0, []string{"func f 2 0 1 9 9 9", "if 0 3", "count 0 1 3", "step 0 1", "ret 0"}},
		{"unless of 0 alone", 0, []string{"func f 2 0 0 0 9 9", "unless 0 3", "count 0 1 3", "step 0 1", "ret 0"}},
		{"unless of no 0", 0, []string{"func f 2 0 -5 -1 9 9", "unless 0 2", "ret 0", "count 0 1 4", "step 0 2", "ret 0"}},
		{"check", 0, []string{"func f 2 0 4 9", "check 0 4", "count 1 0 3", "step 1 1", "ret 0"}},
		{"check, below", 0, []string{"func f 3 0 -4 -1 9 9", "check 0 4", "count 2 1 3", "step 2 1", "ret 0"}},
		{"div by 0", 0, []string{"func f 3 0 9 9", "div 2 0 1", "count 1 0 3", "step 1 1", "ret 0"}},
		{"rem by 0", 0, []string{"func f 3 0 9 9", "rem 2 0 1", "count 1 0 3", "step 1 1", "ret 0"}},
		{"load without words", 0, []string{"func f 3 0 9 9", "load 2 1 0", "count 1 0 3", "step 1 1", "ret 0"}},
		{"store out of the words", 0, []string{"func f 3 4 9 9", "store 2 1 4", "count 1 0 3", "step 1 1", "ret 0"}},
		{"call", 0, []string{"func f 3 0 9 9", "call 2 0 1", "count 1 0 3", "step 1 1", "ret 0", "func g 1 0 0 8", "ret 0"}},
		{"count of itself", 0, []string{"func f 3 0 9 9", "count 0 0 3", "count 1 0 3", "step 1 1", "ret 0"}},
		{"count that isn't below", 0, []string{"func f 3 0 9 9 3 9", "count 0 1 3", "count 2 0 3", "step 2 1", "ret 0"}},
		{"count that is below", 0, []string{"func f 3 0 2 2 3 9", "count 0 1 2", "ret 0", "count 2 1 4", "step 2 2", "ret 0"}},
		{"nothing stands ahead", 0, []string{"func f 3 0 5 9 9 9", "check 0 4", "set 2 0", "count 2 1 4", "step 2 2", "ret 0"}},
		{"nothing stands further ahead", 0, []string{"func f 3 0 5 9 9 9", "check 0 4", "move 2 2", "jump 4", "ret 0", "count 2 1 6", "step 2 4", "ret 0"}},
		{"one of two, by a set of much", 3, []string{"func f 3 0 0 0", "set 1 3", "unless 0 4", "set 1 99", "jump 4", "count 2 1 6", "step 2 4", "ret 0"}},
		{"one of two, by its own way", 3, []string{"func f 3 0 0 0 99 99", "if 0 2", "set 1 3", "count 2 1 4", "step 2 2", "ret 0"}},
		{"one of two, both by one if", 99, []string{"func f 3 0 1 1 99 99", "if 0 2", "set 1 3", "count 2 1 4", "step 2 2", "ret 0"}},
		{"not reached, behind a jump", 3, []string{"func f 3 0", "set 1 3", "jump 3", "set 1 99", "count 2 1 5", "step 2 3", "ret 0"}},
		{"not reached, behind the end", 3, []string{"func f 3 0", "set 1 3", "count 2 1 3", "step 2 1", "ret 0", "set 1 99", "jump 1"}},
		{"not reached, a step of the count", 3, []string{"func f 3 0", "set 1 3", "count 2 1 3", "step 2 1", "ret 0", "set 1 99", "set 2 -99", "step 2 1"}},
		{"not reached, to the beginning", 9, []string{"func f 2 0 -3 9", "count 1 0 2", "step 1 0", "ret 0", "set 0 99", "jump 0"}},
	} {
		told(t, c.what, text(c.text...), 0, c.want)
	}
}

// P17.1: what comes in is joined: the trips go by the least count and the greatest bound of all, also where no way in has both.
func TestWaysJoin(t *testing.T) {
	two := []string{"func f 3 0 -1 1", "if 0 4", "set 1 3", "set 2 5", "jump 6", "set 1 1", "set 2 4", "count 1 2 8", "step 1 6", "ret 0"}
	told(t, "neither has both", text(two...), 0, 4)
	two[2], two[3] = "set 1 -7", "set 2 2"
	told(t, "one has the count", text(two...), 0, 11)
	two[5], two[6] = "set 1 30", "set 2 40"
	told(t, "in each one less", text(two...), 0, 47)
	two[3], two[6] = "set 2 -9", "set 2 20"
	told(t, "in each none", text(two...), 0, 27)
	two[2], two[3], two[5], two[6] = "set 1 8", "set 2 5", "set 1 9", "set 2 8"
	told(t, "none at all", text(two...), 0, 0)
	two[6] = "set 2 9"
	told(t, "one by both together", text(two...), 0, 1)
	two[6] = "if 1 7"
	told(t, "into the loop's middle", text("func f 3 0 -1 1", "set 1 4", "if 0 4", "set 1 2", "jump 5", "set 2 9", "count 1 2 7", "step 1 5", "ret 0"), 0, 7)
	told(t, "three, of which each widens", text("func f 4 0 -1 1 -1 1", "set 2 4", "set 3 6", "if 0 7", "set 2 1", "if 1 7", "set 3 20", "jump 7", "count 2 3 9", "step 2 7", "ret 0"), 0, 19)
	told(t, "two from one if, by two ways", text("func f 3 0 0 9 20 20", "if 0 2", "set 0 7", "count 0 1 4", "step 0 2", "ret 0"), 0, 19)
	told(t, "one as another entrance narrows", text("func f 3 0 -5 40 -9 9", "if 1 2", "check 0 4", "count 2 0 4", "step 2 2", "ret 0"), 0, 40)
	told(t, "each narrowed otherwise", text("func f 3 0 -5 40 -9 9", "if 1 3", "check 0 4", "jump 4", "check 0 9", "count 2 0 6", "step 2 4", "ret 0"), 0, 8)
}

// P17.1: a loop whose head is the first instruction: the beginning comes in, and nothing else.
func TestBeginning(t *testing.T) {
	told(t, "parameters", text("func f 2 0 -3 9 4 20", "count 0 1 2", "step 0 0", "ret 0"), 0, 23)
	told(t, "the bound is no parameter", text("func f 2 0 -3 9", "count 0 1 2", "step 0 0", "ret 0"), 0, 3)
	told(t, "the count is none", text("func f 2 0 -3 9", "count 1 0 2", "step 1 0", "ret 0"), 0, 9)
	told(t, "neither is", text("func f 3 0 -3 9", "count 1 2 2", "step 1 0", "ret 0"), 0, 0)
	told(t, "ahead and behind", text("func f 3 0 5 5 7 7", "count 0 1 2", "step 0 0", "count 2 0 4", "step 2 2", "ret 0"), 0, 2, 7)
	told(t, "two ways back", text("func f 3 0 5 5 17 17 -1 1", "count 0 1 4", "if 2 3", "step 0 0", "step 0 0", "ret 0"), 0, 12)
	m := text("func f 2 0 0 3", "count 1 0 2", "step 1 0", "ret 0", "func g 2 0 0 5", "count 1 0 2", "step 1 0", "ret 0")
	told(t, "its own", m, 0, 3)
	told(t, "its own", m, 1, 5)
}

// P17.1: what stands in a loop, or comes back to its head, does not matter.
func TestMembers(t *testing.T) {
	told(t, "the count is less behind it", text("func f 3 0", "set 0 2", "set 1 9", "count 0 1 5", "set 2 99", "step 0 2", "set 0 -99", "ret 0"), 0, 7)
	told(t, "by the count's own step", text("func f 3 0 -9 2", "set 1 9", "count 0 1 5", "if 2 4", "step 0 1", "step 0 1", "ret 0"), 0, 18)
	told(t, "left in the middle", text("func f 3 0 -1 1 7 7", "count 2 1 4", "if 0 4", "move 0 1", "step 2 0", "ret 0"), 0, 7)
	told(t, "left by a ret", text("func f 3 0 -1 1 7 7", "count 2 1 4", "if 0 3", "ret 0", "step 2 0", "ret 0"), 0, 7)
	told(t, "narrowed within", text("func f 3 0 -9 99", "count 1 0 3", "check 0 4", "step 1 0", "ret 0"), 0, 99)
	told(t, "the bound is read, the count is read", text("func f 3 9 0 99", "count 1 0 4", "store 0 1 0", "load 2 1 0", "step 1 0", "ret 0"), 0, 99)
}
