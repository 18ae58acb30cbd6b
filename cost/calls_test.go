package cost_test

import (
	"testing"

	"soffit/api"
)

// c is a ceiling.
func c(steps, frames, words int64) api.Ceiling {
	return api.Ceiling{Steps: steps, Frames: frames, Words: words}
}

// P18.1: Frames and Words of a function that calls none are its own.
func TestOwn(t *testing.T) {
	told(t, "one register", text("func f 1 0", "ret 0"), c(1, 1, 1))
	told(t, "as many as may be", text("func f 64 4096", "ret 0"), c(1, 1, 4160))
	told(t, "words alone matter beside", text("func f 3 7 0 9", "set 2 5", "ret 0"), c(2, 1, 10))
}

// P18.1: a call weighs 4 and the Steps of the function that is called; the frames and words are one upon the other.
func TestCalls(t *testing.T) {
	told(t, "of a later one", text("func f 1 0", "call 0 0 1", "ret 0", "func g 2 3", "set 0 1", "ret 0"), c(4+2+1, 2, 6), c(2, 1, 5))
	told(t, "of an earlier one", text("func g 2 3", "set 0 1", "ret 0", "func f 1 0", "call 0 0 0", "ret 0"), c(2, 1, 5), c(4+2+1, 2, 6))
	told(t, "twice", text("func f 1 0", "call 0 0 1", "call 0 0 1", "ret 0", "func g 2 3", "div 0 0 0", "ret 0"), c(2*(4+9)+1, 2, 6), c(9, 1, 5))
	told(t, "on either way", text("func f 2 0", "if 0 3", "call 0 0 1", "ret 0", "call 1 1 1", "ret 0", "func g 2 3", "mul 0 0 0", "ret 0"), c(1+4+4+1, 2, 7), c(4, 1, 5))
	told(t, "on one way alone, which weighs more", text("func f 1 0", "if 0 3", "call 0 0 1", "ret 0", "div 0 0 0", "ret 0", "func g 1 0", "div 0 0 0", "ret 0"), c(1+4+9+1, 2, 2), c(9, 1, 1))
	told(t, "on one way alone, which weighs less", text("func f 1 0", "if 0 3", "call 0 0 1", "ret 0", "div 0 0 0", "ret 0", "func g 1 5", "ret 0"), c(1+8+1, 2, 7), c(1, 1, 6))
	told(t, "of one with a loop", text("func f 1 0", "call 0 0 1", "ret 0", "func g 2 0", "set 1 10", "count 0 1 3", "step 0 1", "ret 0"), c(4+23+1, 2, 3), c(1+10*2+1+1, 1, 2))
	told(t, "with arguments, one of which is out of its range", text("func f 2 0 5 9 0 3", "call 0 0 1", "ret 0", "func g 2 0 0 4 0 3", "mul 0 1 1", "ret 0"), c(4+4+1, 2, 4), c(4, 1, 2))
}

// P18.1: a call within a loop counts in each round.
func TestCallsInLoops(t *testing.T) {
	told(t, "one", text("func f 3 0", "set 1 10", "count 0 1 4", "call 2 2 1", "step 0 1", "ret 0", "func g 1 2", "mul 0 0 0", "ret 0"), c(1+10*(1+4+4+1)+1+1, 2, 6), c(4, 1, 3))
	told(t, "two of the same", text("func f 3 0", "set 1 10", "count 0 1 5", "call 2 2 1", "call 2 2 1", "step 0 1", "ret 0", "func g 1 2", "mul 0 0 0", "ret 0"), c(1+10*(1+2*(4+4)+1)+1+1, 2, 6), c(4, 1, 3))
	told(t, "within two loops", text("func f 5 0 2 2 3 3", "count 2 0 6", "set 3 0", "count 3 1 5", "call 4 4 1", "step 3 2", "step 2 0", "ret 0", "func g 1 0", "ret 0"), c(2*(1+1+3*(1+4+1+1)+1+1)+1+1, 2, 6), c(1, 1, 1))
	told(t, "in a loop without rounds", text("func f 3 0", "count 0 1 3", "call 2 2 1", "step 0 0", "ret 0", "func g 1 2", "mul 0 0 0", "ret 0"), c(1+1, 2, 6), c(4, 1, 3))
	told(t, "a loop of one that is called in a loop", text("func f 3 0", "set 1 4", "count 0 1 4", "call 2 1 1", "step 0 1", "ret 0", "func g 2 0 0 5", "count 1 0 2", "step 1 0", "ret 0"), c(1+4*(1+4+12+1)+1+1, 2, 5), c(5*2+1+1, 1, 2))
	told(t, "on the lighter way back", text("func f 3 0 4 4", "count 1 0 6", "if 2 4", "call 2 2 1", "step 1 0", "div 2 2 2", "step 1 0", "ret 0", "func g 1 9", "ret 0"), c(4*(1+1+8+1)+1+1, 2, 13), c(1, 1, 10))
}

// P18.1: along a row of functions the steps, frames and words of all are summed up; which numbers they have doesn't matter.
func TestRowOfCalls(t *testing.T) {
	told(t, "falling", text("func f 1 1", "ret 0", "func g 2 0", "call 0 0 0", "ret 0", "func h 3 5", "call 0 0 1", "ret 0", "func i 4 0", "call 0 0 2", "ret 0"), c(1, 1, 2), c(6, 2, 4), c(11, 3, 12), c(16, 4, 16))
	told(t, "rising", text("func i 4 0", "call 0 0 1", "ret 0", "func h 3 5", "call 0 0 2", "ret 0", "func g 2 0", "call 0 0 3", "ret 0", "func f 1 1", "ret 0"), c(16, 4, 16), c(11, 3, 12), c(6, 2, 4), c(1, 1, 2))
	told(t, "mixed", text("func h 3 5", "call 0 0 2", "ret 0", "func f 1 1", "ret 0", "func g 2 0", "call 0 0 1", "ret 0", "func i 4 0", "call 0 0 0", "ret 0"), c(11, 3, 12), c(1, 1, 2), c(6, 2, 4), c(16, 4, 16))
}

// P18.1: Frames and Words go by the greatest of those that are called, not by their sum, nor by the last one, and each for itself.
func TestGreatest(t *testing.T) {
	m := text("func f 1 0", "call 0 0 1", "call 0 0 2", "call 0 0 3", "ret 0", "func a 1 100", "ret 0", "func b 1 0", "call 0 0 4", "ret 0", "func e 2 50", "ret 0", "func d 3 20", "ret 0")
	told(t, "three", m, c(3*4+1+6+1+1, 3, 102), c(1, 1, 101), c(6, 2, 24), c(1, 1, 52), c(1, 1, 23))
	m.Funcs[3].Words = 4000
	told(t, "the last one's words", m, c(21, 3, 4003), c(1, 1, 101), c(6, 2, 24), c(1, 1, 4002), c(1, 1, 23))
	m.Funcs[4].Words = 4096
	told(t, "those of the one further on", m, c(21, 3, 4101), c(1, 1, 101), c(6, 2, 4100), c(1, 1, 4002), c(1, 1, 4099))
	told(t, "a row of two and one of one", text("func f 1 0", "call 0 0 2", "call 0 0 1", "ret 0", "func g 1 0", "call 0 0 2", "ret 0", "func h 1 0", "ret 0"), c(4+1+4+6+1, 3, 3), c(6, 2, 2), c(1, 1, 1))
	told(t, "its own are less", text("func f 60 4000", "call 0 0 1", "ret 0", "func g 1 0", "ret 0"), c(6, 2, 4061), c(1, 1, 1))
}

// P18.1: functions that nobody calls have ceilings of their own, and what is called twice over is told once.
func TestNobodyCalls(t *testing.T) {
	told(t, "three apart", text("func f 1 0", "ret 0", "func g 2 0", "mul 0 0 0", "ret 0", "func h 3 3", "div 0 0 0", "ret 0"), c(1, 1, 1), c(4, 1, 2), c(9, 1, 6))
	told(t, "a diamond", text("func f 1 0", "call 0 0 1", "call 0 0 2", "ret 0", "func g 1 0", "call 0 0 3", "ret 0", "func h 1 0", "call 0 0 3", "ret 0", "func i 1 0", "ret 0"), c(2*(4+6)+1, 3, 3), c(6, 2, 2), c(6, 2, 2), c(1, 1, 1))
}

// P18.1: the call that counts is one that can be reached.
func TestCallsNotReached(t *testing.T) {
	told(t, "of a heavy one", text("func f 1 0", "jump 2", "call 0 0 1", "ret 0", "func g 9 9", "div 0 0 0", "ret 0"), c(2, 1, 1), c(9, 1, 18))
	told(t, "beside one that is", text("func f 1 0", "jump 2", "call 0 0 1", "call 0 0 2", "ret 0", "func g 9 9", "div 0 0 0", "ret 0", "func h 1 0", "ret 0"), c(1+5+1, 2, 2), c(9, 1, 18), c(1, 1, 1))
	told(t, "round", text("func f 1 0", "ret 0", "call 0 0 1", "ret 0", "func g 1 0", "call 0 0 0", "ret 0"), c(1, 1, 1), c(6, 2, 2))
}
