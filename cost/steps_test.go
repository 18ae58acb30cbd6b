package cost_test

import (
	"testing"

	"soffit/api"
)

// P18.1: each operation's weight, between a set and a ret.
func TestWeights(t *testing.T) {
	for word, weight := range map[string]int64{
		"set 0 9": 1, "set 0 -9223372036854775808": 1, "move 0 1": 1, "add 0 1 1": 1, "sub 0 1 1": 1, "mul 0 1 1": 3, "div 0 1 1": 8, "rem 0 1 1": 8, "less 0 1 1": 1, "equal 0 1 1": 1, "not 0 1": 1,
		"load 0 1 2": 2, "store 0 1 2": 2, "check 0 4": 1, "jump 2": 1, "if 0 2": 1, "unless 0 2": 1, "count 0 1 2": 1, "step 0 2": 1, "call 0 0 1": 4 + 1, "ret 1": 0,
	} {
		m := text("func f 2 4", "set 1 1", word, "ret 0", "func g 1 0", "ret 0")
		takes(t, word, m, 1+weight+1, 1)
	}
}

// P18.1: no loops: the way to a ret that weighs most, whichever it is.
func TestWays(t *testing.T) {
	takes(t, "straight on", text("func f 2 0", "set 1 5", "mul 1 1 0", "div 1 1 0", "ret 1"), 1+3+8+1)
	takes(t, "the first ret", text("func f 1 0", "if 0 3", "mul 0 0 0", "ret 0", "ret 0"), 1+3+1)
	takes(t, "the last ret", text("func f 1 0", "if 0 2", "ret 0", "mul 0 0 0", "ret 0"), 1+3+1)
	takes(t, "the one in the middle", text("func f 1 0", "if 0 2", "ret 0", "unless 0 5", "div 0 0 0", "ret 0", "mul 0 0 0", "ret 0"), 1+1+8+1)
	takes(t, "the target of an unless", text("func f 1 0", "unless 0 3", "mul 0 0 0", "ret 0", "rem 0 0 0", "ret 0"), 1+8+1)
	takes(t, "the target of a count", text("func f 1 0", "count 0 0 3", "mul 0 0 0", "ret 0", "rem 0 0 0", "ret 0"), 1+8+1)
	takes(t, "a step that leads on", text("func f 1 0", "step 0 2", "ret 0", "rem 0 0 0", "ret 0"), 1+8+1)
	takes(t, "by lower numbers", text("func f 1 0", "jump 3", "div 0 0 0", "ret 0", "mul 0 0 0", "jump 1"), 1+3+1+8+1)
	takes(t, "backwards all the way", text("func f 1 0", "jump 6", "ret 0", "mul 0 0 0", "jump 1", "load 0 0 0", "jump 2", "rem 0 0 0", "jump 4"), 1+8+1+2+1+3+1+1)
	takes(t, "both ways are one", text("func f 1 0", "if 0 1", "ret 0"), 2)
}

// P18.1: where ways join the one counts that weighs most, whether it comes first, last or between.
func TestJoins(t *testing.T) {
	takes(t, "the first one", text("func f 1 0", "if 0 3", "div 0 0 0", "jump 4", "mul 0 0 0", "ret 0"), 1+8+1+1)
	takes(t, "the second one", text("func f 1 0", "if 0 3", "mul 0 0 0", "jump 4", "div 0 0 0", "ret 0"), 1+8+1)
	takes(t, "the one past both", text("func f 1 0", "if 0 2", "div 0 0 0", "ret 0"), 1+8+1)
	three := []string{"func f 1 0", "if 0 4", "if 0 6", "set 0 0", "jump 7", "set 0 0", "jump 7", "set 0 0", "ret 0"}
	for i, want := range map[int]int64{3: 1 + 1 + 8 + 1 + 1, 5: 1 + 8 + 1 + 1, 7: 1 + 1 + 8 + 1} {
		l := append([]string{}, three...)
		l[i] = "div 0 0 0"
		takes(t, l[i], text(l...), want)
	}
	takes(t, "two joins one behind the other", text("func f 1 0", "if 0 3", "mul 0 0 0", "jump 4", "div 0 0 0", "if 0 7", "rem 0 0 0", "jump 8", "load 0 0 0", "ret 0"), 1+8+1+8+1+1)
	takes(t, "more instructions that weigh less", text("func f 1 0", "if 0 5", "set 0 0", "set 0 0", "set 0 0", "jump 6", "mul 0 0 0", "ret 0"), 1+4+1)
	takes(t, "fewer instructions that weigh more", text("func f 1 0", "if 0 5", "set 0 0", "set 0 0", "set 0 0", "jump 6", "div 0 0 0", "ret 0"), 1+8+1)
	takes(t, "a join by a lower number", text("func f 1 0", "if 0 4", "mul 0 0 0", "ret 0", "jump 2", "unless 0 2", "div 0 0 0", "jump 2"), 1+1+8+1+1)
}

// P18.1: whether a way is gone isn't asked: what leads there counts.
func TestWaysNotGone(t *testing.T) {
	takes(t, "an if of 0", text("func f 1 0", "set 0 0", "if 0 3", "ret 0", "div 0 0 0", "ret 0"), 1+1+8+1)
	takes(t, "an unless of 1", text("func f 1 0", "set 0 1", "unless 0 3", "ret 0", "div 0 0 0", "ret 0"), 1+1+8+1)
	takes(t, "an if of 1", text("func f 1 0", "set 0 1", "if 0 4", "div 0 0 0", "ret 0", "ret 0"), 1+1+8+1)
	takes(t, "a count that is below", text("func f 2 0", "set 1 1", "count 0 1 3", "ret 0", "div 0 0 0", "ret 0"), 1+1+8+1)
	takes(t, "behind a check that nothing passes", text("func f 1 0 5 9", "check 0 4", "div 0 0 0", "ret 0"), 1+8+1)
	takes(t, "behind a division by 0", text("func f 1 0", "div 0 0 0", "mul 0 0 0", "ret 0"), 8+3+1)
	takes(t, "behind words that aren't there", text("func f 1 0", "load 0 0 0", "store 0 0 7", "ret 0"), 2+2+1)
	takes(t, "behind a call that can't be", text("func f 1 0 0 0", "call 0 0 1", "mul 0 0 0", "ret 0", "func g 1 0 1 1", "div 0 0 0", "ret 0"), 4+9+3+1, 9)
	takes(t, "a loop that isn't come to", text("func f 3 0 5 9", "check 0 4", "count 1 0 4", "div 2 2 2", "step 1 1", "ret 0"), 1+0+1+1)
}

// P18.1: what can't be reached counts nowhere.
func TestNotReached(t *testing.T) {
	takes(t, "behind a ret", text("func f 1 0", "ret 0", "div 0 0 0", "ret 0"), 1)
	takes(t, "it leads to what can be", text("func f 1 0", "jump 3", "div 0 0 0", "jump 3", "ret 0"), 2)
	takes(t, "by the next one", text("func f 1 0", "jump 2", "div 0 0 0", "ret 0"), 2)
	takes(t, "a loop", text("func f 2 0 9 9", "ret 0", "count 1 0 3", "step 1 1", "ret 0"), 1)
	takes(t, "it leads to a loop's head", text("func f 2 0 9 9", "jump 2", "div 0 0 0", "count 1 0 4", "step 1 2", "ret 0"), 1+9*2+1+1)
	takes(t, "it leads into a loop", text("func f 3 0 9 9", "count 1 0 3", "mul 2 2 2", "step 1 0", "ret 0", "div 2 2 2", "jump 1", "jump 2", "step 1 0"), 9*(1+3+1)+1+1)
	told(t, "a call", text("func f 1 0", "ret 0", "call 0 0 1", "ret 0", "func g 9 4000", "div 0 0 0", "ret 0"), api.Ceiling{Steps: 1, Frames: 1, Words: 1}, api.Ceiling{Steps: 9, Frames: 1, Words: 4009})
	told(t, "a call of itself", text("func f 1 0", "ret 0", "call 0 0 0", "ret 0"), api.Ceiling{Steps: 1, Frames: 1, Words: 1})
}
