package cost_test

import "testing"

// P18.1: one loop: its rounds by the heaviest way back, and what leads there and on.
func TestOneLoop(t *testing.T) {
	takes(t, "at the beginning", text("func f 2 0 -3 9", "count 1 0 2", "step 1 0", "ret 1"), 9*2+1+1)
	takes(t, "behind a heavy way", text("func f 3 0 -3 9", "div 2 2 0", "count 1 0 3", "step 1 1", "ret 1"), 8+9*2+1+1)
	takes(t, "ahead of a heavy way", text("func f 3 0 -3 9", "count 1 0 2", "step 1 0", "div 2 2 2", "ret 1"), 9*2+1+8+1)
	takes(t, "a heavy round", text("func f 3 0 -3 9", "count 1 0 4", "div 2 2 2", "mul 2 2 2", "step 1 0", "ret 1"), 9*(1+8+3+1)+1+1)
	takes(t, "one round", text("func f 3 0 1 1", "count 1 0 3", "div 2 2 2", "step 1 0", "ret 1"), 1*(1+8+1)+1+1)
	takes(t, "no round", text("func f 3 0 -5 0", "count 1 0 3", "div 2 2 2", "step 1 0", "ret 1"), 1+1)
	takes(t, "two ways into it", text("func f 4 0 0 9 5 5", "if 0 3", "div 2 2 2", "jump 4", "mul 2 2 2", "count 3 1 6", "step 3 4", "ret 0"), 1+8+1+5*2+1+1)
	takes(t, "two ways into it, the second one heavier", text("func f 4 0 0 9 5 5", "if 0 3", "mul 2 2 2", "jump 4", "div 2 2 2", "count 3 1 6", "step 3 4", "ret 0"), 1+8+5*2+1+1)
	takes(t, "its head behind its members", text("func f 3 0", "set 1 7", "jump 4", "div 2 2 2", "step 0 4", "count 0 1 6", "jump 2", "ret 0"), 1+1+7*(1+1+8+1)+1+1)
	takes(t, "it leads out by a lower number", text("func f 3 0 7 7", "jump 3", "mul 2 2 2", "ret 0", "count 1 0 1", "step 1 3"), 1+7*2+1+3+1)
}

// P18.1: a loop with several ways back: a round is as heavy as the heaviest of them.
func TestWaysBack(t *testing.T) {
	takes(t, "the first one", text("func f 3 0 4 4", "count 1 0 5", "if 2 4", "mul 2 2 2", "step 1 0", "step 1 0", "ret 0"), 4*(1+1+3+1)+1+1)
	takes(t, "the last one", text("func f 3 0 4 4", "count 1 0 5", "if 2 3", "step 1 0", "div 2 2 2", "step 1 0", "ret 0"), 4*(1+1+8+1)+1+1)
	takes(t, "the one in the middle", text("func f 3 0 4 4", "count 1 0 8", "if 2 4", "set 2 0", "step 1 0", "if 2 7", "div 2 2 2", "step 1 0", "step 1 0", "ret 0"), 4*(1+1+1+8+1)+1+1)
	takes(t, "one step by two ways", text("func f 3 0 4 4", "count 1 0 4", "if 2 3", "mul 2 2 2", "step 1 0", "ret 0"), 4*(1+1+3+1)+1+1)
	takes(t, "one step by two ways, the second one heavier", text("func f 3 0 4 4", "count 1 0 6", "if 2 4", "mul 2 2 2", "jump 5", "div 2 2 2", "step 1 0", "ret 0"), 4*(1+1+8+1)+1+1)
	takes(t, "a way back behind the way out", text("func f 3 0 4 4", "count 1 0 4", "if 2 5", "step 1 0", "ret 0", "ret 0", "step 1 0"), 4*3+1+1)
}

// P18.1: ways out of a loop's middle, and rets there: they are no rounds, and count behind all of them.
func TestWaysOut(t *testing.T) {
	takes(t, "a heavy way out", text("func f 3 0", "set 1 4", "count 0 1 4", "if 2 5", "step 0 1", "ret 0", "div 0 0 0", "ret 0"), 1+4*3+1+1+8+1)
	takes(t, "a light way out", text("func f 3 0", "set 1 4", "count 0 1 5", "if 2 4", "step 0 1", "ret 0", "div 0 0 0", "ret 0"), 1+4*3+1+8+1)
	takes(t, "both lead on together", text("func f 3 0 4 4", "count 1 0 3", "if 2 3", "step 1 0", "ret 0"), 4*3+1+1+1)
	takes(t, "a ret behind a heavy way", text("func f 3 0 4 4", "count 1 0 5", "div 2 2 2", "if 2 4", "step 1 0", "ret 0", "ret 0"), 4*(1+8+1+1)+1+8+1+1)
	takes(t, "the way out is no part of a round", text("func f 3 0 4 4", "count 1 0 4", "if 2 3", "step 1 0", "div 2 2 2", "ret 0"), 4*3+1+1+8+1)
	takes(t, "out of a loop without rounds", text("func f 3 0 0 0", "count 1 0 3", "if 2 4", "step 1 0", "ret 0", "div 2 2 2", "ret 0"), 1+1+8+1)
	takes(t, "rets alone behind the count, but one way back", text("func f 3 0 6 6", "count 1 0 4", "if 2 3", "step 1 0", "ret 2", "ret 1"), 6*3+1+1+1)
}

// P18.1: several loops that have no member together.
func TestRows(t *testing.T) {
	takes(t, "one behind the other", text("func f 4 0 3 5 -2 8", "count 2 0 2", "step 2 0", "set 3 1", "count 3 1 5", "step 3 3", "ret 0"), 5*2+1+1+7*2+1+1)
	takes(t, "right behind", text("func f 4 0 3 5 -2 8", "count 2 0 2", "step 2 0", "count 3 1 4", "step 3 2", "ret 0"), 5*2+1+8*2+1+1)
	takes(t, "either of two, the second one heavier", text("func f 5 0 5 5 7 7 -1 1", "if 2 3", "count 3 0 5", "step 3 1", "count 4 1 5", "step 4 3", "ret 0"), 1+7*2+1+1)
	takes(t, "either of two, the first one heavier", text("func f 5 0 7 7 5 5 -1 1", "if 2 3", "count 3 0 5", "step 3 1", "count 4 1 5", "step 4 3", "ret 0"), 1+7*2+1+1)
	takes(t, "past the second one", text("func f 5 0 5 5 7 7", "count 2 0 3", "if 4 5", "step 2 0", "count 3 1 5", "step 3 3", "ret 0"), 5*3+1+7*2+1+1)
	takes(t, "from the middle of one into the next one", text("func f 4 0 5 5 7 7", "count 2 0 4", "if 2 5", "step 2 0", "ret 0", "ret 0", "div 2 2 2", "set 2 0", "count 3 1 9", "step 3 7", "ret 0"), 5*3+1+1+8+1+7*2+1+1)
	takes(t, "three", text("func f 4 0 1 1 2 2 3 3", "count 3 0 2", "step 3 0", "set 3 0", "count 3 1 5", "step 3 3", "set 3 0", "count 3 2 8", "step 3 6", "ret 0"), 1*2+1+1+2*2+1+1+3*2+1+1)
}

// P18.1: loops within one another: the inner one counts all its rounds in each round of the outer one.
func TestNests(t *testing.T) {
	takes(t, "two", text("func f 5 0", "set 1 2", "set 3 3", "count 0 1 8", "set 2 0", "count 2 3 7", "mul 4 4 4", "step 2 4", "step 0 2", "ret 0"), 2+2*(1+1+3*5+1+1)+1+1)
	takes(t, "the inner one's bound is the outer one's count", text("func f 3 0 3 5", "set 1 -1", "count 1 0 6", "set 2 -3", "count 2 1 5", "step 2 3", "step 1 1", "ret 0"), 1+6*(1+1+7*2+1+1)+1+1)
	takes(t, "the inner head right behind the outer one", text("func f 3 0 3 5", "count 1 0 4", "count 2 1 3", "step 2 1", "step 1 0", "ret 0"), 5*(1+4*2+1+1)+1+1)
	takes(t, "the inner head by a lower number", text("func f 4 0", "set 1 7", "set 3 3", "jump 6", "count 2 3 5", "step 2 3", "step 0 6", "count 0 1 9", "set 2 0", "jump 3", "ret 0"), 3+7*(1+1+1+3*2+1+1)+1+1)
	takes(t, "three", text("widen 4 5", "func f 5 0 2 6", "count 1 0 8", "set 2 0", "count 2 1 7", "set 3 -1", "count 3 2 6", "step 3 4", "step 2 2", "step 1 0", "ret 0"), 6*(1+1+5*(1+1+5*2+1+1)+1+1)+1+1)
	takes(t, "two within another one", text("func f 4 0 3 3 5 5", "count 2 0 8", "set 3 0", "count 3 1 4", "step 3 2", "set 3 1", "count 3 1 7", "step 3 5", "step 2 0", "ret 0"), 3*(1+1+5*2+1+1+4*2+1+1)+1+1)
	takes(t, "either of two within another one", text("func f 6 0 3 3 5 5 -1 1", "count 3 0 9", "set 4 0", "if 2 5", "count 4 1 8", "step 4 3", "count 4 1 8", "mul 5 5 5", "step 4 5", "step 3 0", "ret 0"), 3*(1+1+1+5*5+1+1)+1+1)
	takes(t, "past the inner one", text("func f 5 0 3 3 5 5", "count 2 0 6", "set 3 0", "if 4 5", "count 3 1 5", "step 3 3", "step 2 0", "ret 0"), 3*(1+1+1+5*2+1+1)+1+1)
}

// P18.1: loops within one another of which one has no rounds: what is within has none, what is around has its own.
func TestNestsOfNone(t *testing.T) {
	takes(t, "the outer one", text("func f 4 0 0 0 5 9", "count 2 0 5", "set 3 0", "count 3 1 4", "step 3 2", "step 2 0", "ret 0"), 1+1)
	takes(t, "the inner one", text("func f 4 0 5 5 0 0", "count 2 0 5", "set 3 0", "count 3 1 4", "step 3 2", "step 2 0", "ret 0"), 5*(1+1+1+1)+1+1)
	takes(t, "the middle one", text("func f 6 0 5 5 0 0 7 7", "count 3 0 8", "set 4 0", "count 4 1 7", "set 5 0", "count 5 2 6", "step 5 4", "step 4 2", "step 3 0", "ret 0"), 5*(1+1+1+1)+1+1)
	takes(t, "out of the inner one's middle", text("func f 5 0 0 0 5 9", "count 2 0 6", "set 3 0", "count 3 1 5", "if 4 7", "step 3 2", "step 2 0", "ret 0", "div 4 4 4", "ret 0"), 1+1+1+1+8+1)
}

// P18.1: ways out of inner loops: to the outer one's step, to a step of their own, and out of all; they are behind all rounds of the inner one.
func TestNestsLeft(t *testing.T) {
	takes(t, "to the outer one's step", text("func f 5 0 2 2 3 3", "count 2 0 6", "set 3 0", "count 3 1 5", "if 4 5", "step 3 2", "step 2 0", "ret 0"), 2*(1+1+3*3+1+1+1)+1+1)
	takes(t, "to another step of the outer one", text("func f 5 0 2 2 3 3", "count 2 0 7", "set 3 0", "count 3 1 6", "if 4 5", "step 3 2", "step 2 0", "step 2 0", "ret 0"), 2*(1+1+3*3+1+1+1)+1+1)
	takes(t, "to a ret", text("func f 5 0 2 2 3 3", "count 2 0 6", "set 3 0", "count 3 1 5", "if 4 7", "step 3 2", "step 2 0", "ret 0", "div 4 4 4", "ret 0"), 2*(1+1+3*3+1+1)+1+1+3*3+1+1+8+1)
	takes(t, "to where the outer one leads", text("func f 5 0 2 2 3 3", "count 2 0 6", "set 3 0", "count 3 1 5", "if 4 6", "step 3 2", "step 2 0", "ret 0"), 2*(1+1+3*3+1+1)+1+1+3*3+1+1+1)
	takes(t, "the inner one's count leads out of both", text("func f 5 0 2 2 3 3", "count 2 0 6", "set 3 0", "count 3 1 6", "if 4 5", "step 3 2", "step 2 0", "ret 0"), 2*(1+1+3*3+1+1+1)+1+1+3*3+1+1)
}

// P18.1: an inner loop is worked out ahead of those around it, also where its head has the greater number or stands behind them.
func TestInnerFirst(t *testing.T) {
	takes(t, "its head is the greatest number", text("func f 6 0 2 2 3 3", "jump 3", "ret 0", "step 2 3", "count 2 0 1", "set 3 0", "jump 8", "div 5 5 5", "step 3 8", "count 3 1 2", "jump 6"), 1+2*(1+1+1+3*(1+1+8+1)+1+1)+1+1)
	takes(t, "three, whose heads fall", text("func f 6 0 2 2 3 3 4 4", "jump 8", "ret 0", "count 5 2 4", "step 5 2", "step 4 5", "count 4 1 7", "jump 2", "step 3 8", "count 3 0 1", "jump 5"), 1+2*(1+1+3*(1+1+4*2+1+1)+1+1)+1+1)
	takes(t, "a long loop ahead of a short one around none", text("func f 5 0 2 2 3 3", "count 2 0 5", "mul 4 4 4", "mul 4 4 4", "mul 4 4 4", "step 2 0", "count 3 1 7", "step 3 5", "ret 0"), 2*(1+9+1)+1+3*2+1+1)
}
