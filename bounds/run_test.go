package bounds_test

import (
	"strconv"
	"strings"
	"testing"

	"soffit/api"
	"soffit/code"
)

// P16.2: code.May's error, ahead of that there is no such function.
func TestRunErrors(t *testing.T) {
	numbers := map[string]api.Errno{
		"thresholds": 66, "17": 3, "functions": 3, "name": 8, "twice": 9, "parameters": 3, "empty": 40, "no registers": 95, "registers": 95, "words": 96, "words below": 96,
		"no code": 97, "code": 97, "operation": 60, "unused": 62, "register": 61, "target": 63, "call": 65, "room": 65, "fall": 64,
	}
	for what, m := range wrongModules() {
		if e := code.May(m).E; e != numbers[what] {
			t.Errorf("the test's own module %s: %d", what, e)
		}
		for _, fn := range []int{0, 1, 2, -1, least, most} {
			refused(t, what, m, fn, numbers[what])
		}
	}
	m := text("func f 2 0", "set 0 1", "step 0 0", "func g 1 0", "ret 0")
	for _, fn := range []int{2, 3, -1, -2, least, most, 1 << 32, 1<<32 + 1} {
		refused(t, "no such function", m, fn, api.ErrArg)
	}
	for fn := -1; fn < 2; fn++ {
		refused(t, "no functions", api.Module{}, fn, api.ErrArg)
		refused(t, "thresholds alone", api.Module{Thresholds: []int64{1, 2}}, fn, api.ErrArg)
	}
	refused(t, "a function in spare room", api.Module{Funcs: m.Funcs[:1]}, 1, api.ErrArg)
}

// P16.2: at 0 stands the beginning: the parameters' own ranges, and 0 in all other registers.
func TestBeginning(t *testing.T) {
	m := text("func f 4 0 -3 9 5 5", "ret 0", "func g 2 0 -9223372036854775808 9223372036854775807 7 8", "ret 0", "func h 3 0", "ret 0")
	for fn, want := range [][]api.Span{l(s(-3, 9), n(5), n(0), n(0)), l(all, s(7, 8)), l(n(0), n(0), n(0))} {
		a := done(t, "beginning", m, fn)
		stands(t, "beginning", a, 0, want...)
		changed(t, "beginning", a, 0, make([]int, len(want))...)
	}
	a := done(t, "it is gone back to", text("func f 3 0 1 4", "set 1 7", "set 0 -2", "jump 0"), 0)
	stands(t, "it is gone back to", a, 0, s(-2, 4), s(0, 7), n(0))
	changed(t, "it is gone back to", a, 0, 1, 1, 0)
	stands(t, "it is gone back to", a, 1, s(-2, 4), n(7), n(0))
	changed(t, "it is gone back to", a, 1, 1, 0, 0)
	stands(t, "it is gone back to", a, 2, n(-2), n(7), n(0))
	changed(t, "it is gone back to", a, 2, 0, 0, 0)
}

// P16.2: to some instructions nothing comes: no list, and no changes of any register.
func TestNothingComes(t *testing.T) {
	for _, c := range []struct {
		what string
		m    api.Module
		none []int
	}{
		{"behind a ret", text("func f 2 0", "ret 0", "set 0 1", "ret 0"), []int{1, 2}},
		{"passed by", text("func f 2 0", "jump 3", "set 0 1", "ret 0", "ret 1"), []int{1, 2}},
		{"a way round by itself", text("func f 2 0", "ret 0", "step 1 2", "step 1 1"), []int{1, 2}},
		{"leads to what is reached", text("func f 2 0", "jump 2", "set 0 1", "ret 0"), []int{1}},
		{"behind a check", text("func f 2 0 4 9", "check 0 4", "ret 0"), []int{1}},
		{"behind a load without words", text("func f 2 0", "load 0 1 0", "ret 0"), []int{1}},
		{"behind a store out of the words", text("func f 2 4", "store 0 1 4", "ret 0"), []int{1}},
		{"behind a division by 0", text("func f 2 0", "set 0 1", "div 0 0 1", "ret 0"), []int{2}},
		{"behind a rest by 0", text("func f 2 0", "set 0 1", "rem 0 0 1", "ret 0"), []int{2}},
		{"behind a call", text("func f 2 0", "call 0 0 1", "ret 0", "func g 1 0 1 2", "ret 0"), []int{1}},
		{"an if of 0", text("func f 2 0", "if 0 2", "jump 3", "set 0 1", "ret 0"), []int{2}},
		{"an if of no 0", text("func f 2 0 1 2", "if 0 2", "jump 3", "set 0 1", "ret 0"), []int{1}},
		{"an unless of 0", text("func f 2 0", "unless 0 2", "jump 3", "set 0 1", "ret 0"), []int{1}},
		{"an unless of no 0", text("func f 2 0 -2 -1", "unless 0 2", "jump 3", "set 0 1", "ret 0"), []int{2}},
		{"a count that is below", text("func f 2 0 1 2 3 4", "count 0 1 2", "jump 3", "set 0 1", "ret 0"), []int{2}},
		{"a count that isn't below", text("func f 2 0 4 5 3 4", "count 0 1 2", "jump 3", "set 0 1", "ret 0"), []int{1}},
		{"a count of itself", text("func f 2 0 4 5", "count 0 0 2", "jump 3", "set 0 1", "ret 0"), []int{1}},
		{"and nothing behind that", text("func f 2 0 4 9", "check 0 4", "if 1 4", "set 0 1", "jump 4", "ret 0"), []int{1, 2, 3, 4}},
	} {
		a := done(t, c.what, c.m, 0)
		for at := range a.In {
			changed(t, c.what, a, at, 0, 0)
			nothing := len(c.none) > 0 && c.none[0] == at
			if nothing != (len(a.In[at]) == 0) || !nothing && len(a.In[at]) != 2 {
				t.Errorf("%s: at %d stands %v", c.what, at, a.In[at])
			}
			if nothing {
				c.none = c.none[1:]
			}
		}
	}
}

// counted is code that adds its parameter to another register again and again.
func counted(thresholds, param string) api.Module {
	return text("widen"+thresholds, "func f 2 0 "+param, "add 1 1 0", "jump 0")
}

// P16.2: the first four times an instruction is joined the Joins stand there, behind that what is widened, by the module's thresholds.
func TestFourthAndFifth(t *testing.T) {
	// Ahead of the add of 1 there stand, by rounds, up to 0, 1, 2, 3, 4 by Joins; to 5 it is widened. Behind it, in the same rounds, up to 1, 2, 3, 4, 5, by Joins, too.
	for _, c := range []struct {
		thresholds, param string
		changes           [2]int
	}{
		{"", "1 1", [2]int{6, 5}},       // ahead: to the greatest number, then all; behind: all at once
		{" 4", "1 1", [2]int{6, 5}},     // 5 is above it
		{" 5", "1 1", [2]int{7, 6}},     // ahead: 5, the greatest, all; behind: the greatest, all
		{" 6", "1 1", [2]int{7, 6}},     // ahead: 6, the greatest, all; behind: 7, and so the greatest, all
		{" 5 6", "1 1", [2]int{8, 7}},   // ahead: 5, 6, the greatest, all; behind: 6, the greatest, all
		{" 6 7", "1 1", [2]int{8, 7}},   // ahead: 6, 7, the greatest, all; behind: 7, the greatest, all
		{" 5 50", "1 1", [2]int{8, 7}},  // ahead: 5, 50, the greatest, all; behind: 50, the greatest, all
		{" 50", "1 1", [2]int{7, 6}},    // ahead: 50, the greatest, all; behind: the greatest, all
		{" 0 4", "1 1", [2]int{6, 5}},   // both are below
		{" -5 -1", "1 1", [2]int{6, 5}}, // neither is an end of anything that comes
		{"", "-1 -1", [2]int{6, 5}},
		{" -4", "-1 -1", [2]int{6, 5}},
		{" -5", "-1 -1", [2]int{7, 6}},
		{" -6 -5", "-1 -1", [2]int{8, 7}},
		{" 4 5 6", "-1 -1", [2]int{6, 5}},
		{" -9223372036854775808 9223372036854775807", "1 1", [2]int{6, 5}},
		{" 5 6 7 8 9 10 11 12 13 14 15 16 17 18 19 20", "1 1", [2]int{22, 21}},
		{" 6 7 8 9 10 11 12 13 14 15 16 17 18 19 20 21", "1 1", [2]int{22, 21}},
		{" -20 -19 -18 -17 -16 -15 -14 -13 -12 -11 -10 -9 -8 -7 -6 -5", "-1 -1", [2]int{22, 21}},
	} {
		a := done(t, c.thresholds, counted(c.thresholds, c.param), 0)
		for at := range 2 {
			stands(t, c.thresholds, a, at, a.In[0][0], all)
			changed(t, c.thresholds, a, at, 0, c.changes[at])
		}
	}
}

// P16.2: where no more comes than four Joins hold, nothing is widened; where one more does, thresholds hold it.
func TestHeldByJoins(t *testing.T) {
	// To the ret at the end come 1, 2, 3 and so on, one behind the other.
	lines := []string{"func f 7 0 -9 9 -9 9 -9 9 -9 9 -9 9 -9 9", "set 6 1", "if 0 12", "set 6 2", "if 1 12", "set 6 3", "if 2 12", "set 6 4", "if 3 12", "set 6 5", "if 4 12", "set 6 %", "if 5 12", "ret 6"}
	for _, c := range []struct {
		thresholds, last string
		want             api.Span
		changes          int
	}{
		{"widen", "5", s(1, 5), 4},
		{"widen", "3", s(1, 5), 4},
		{"widen", "6", s(1, most), 5},
		{"widen 6", "6", s(1, 6), 5},
		{"widen 5", "6", s(1, most), 5},
		{"widen 5 7 8", "6", s(1, 7), 5},
		{"widen", "0", s(least, 5), 5},
		{"widen 0", "0", s(0, 5), 5},
		{"widen -9 -4 1 7", "0", s(-4, 5), 5},
		{"widen 2 4", "5", s(1, 5), 4},
	} {
		m := make([]string, 0, len(lines)+1)
		for _, line := range append([]string{c.thresholds}, lines...) {
			m = append(m, strings.ReplaceAll(line, "%", c.last))
		}
		a := done(t, c.thresholds, text(m...), 0)
		if a.In[12][6] != c.want || a.Changes[12][6] != c.changes {
			t.Errorf("%s, %s: %v, %v", c.thresholds, c.last, a.In[12], a.Changes[12])
		}
	}
}

// arrivals is code in which numbers come to the last instruction one behind the other, in R[8].
func arrivals(thresholds string, numbers ...int) api.Module {
	lines := []string{thresholds, "func f 9 0" + strings.Repeat(" -1 1", 8)}
	end := 2*len(numbers) - 1
	for i, v := range numbers {
		lines = append(lines, "set 8 "+strconv.Itoa(v), "if "+strconv.Itoa(i)+" "+strconv.Itoa(end))
	}
	return text(append(lines[:len(lines)-1], "ret 8")...)
}

// P16.2: what changes nothing is no join: where it comes in between, the Joins are still four.
func TestNothingDone(t *testing.T) {
	for _, c := range []struct {
		numbers []int
		want    api.Span
		changes int
	}{
		{[]int{1}, n(1), 0},
		{[]int{1, 2}, s(1, 2), 1},
		{[]int{1, 1, 1, 1, 1, 2, 3, 4, 5}, s(1, 5), 4},
		{[]int{1, 2, 1, 3, 2, 4, 3, 5, 4}, s(1, 5), 4},
		{[]int{5, 1, 2, 3, 4, 1, 5, 4, 0}, s(0, 5), 2},
		{[]int{1, 2, 3, 4, 5, 5, 1, 3, 6}, s(1, 7), 5},
		{[]int{1, 2, 3, 4, 5, 6, 7, 1, 5}, s(1, 7), 5},
		{[]int{1, 2, 3, 4, 5, 6, 7, 8, 7}, s(1, most), 6},
		{[]int{1, 0, -1, -2, -3, -4, 1, 0, -7}, s(-7, 1), 5},
		{[]int{1, 0, -1, -2, -3, -4, 1, 0, -8}, s(least, 1), 6},
		{[]int{1, 0, 2, -1, 3, -2, 1, 4, 0}, s(-7, 7), 6},
		{[]int{1, 0, 2, -1, 3, 9, 1, -9, 0}, all, 6},
	} {
		m := arrivals("widen -7 7", c.numbers...)
		end := len(m.Funcs[0].Code) - 1
		a := done(t, "arrivals", m, 0)
		if a.In[end][8] != c.want || a.Changes[end][8] != c.changes {
			t.Errorf("%v: %v, %v", c.numbers, a.In[end], a.Changes[end])
		}
	}
}
