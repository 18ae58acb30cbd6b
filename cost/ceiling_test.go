package cost_test

import (
	"slices"
	"strconv"
	"testing"

	"soffit/api"
)

// spent is a function of just so many Steps, 4 at least; nothing of it is above them.
func spent(name string, steps int64) api.Func {
	lines := []string{"func " + name + " 2 0", "set 1 " + strconv.FormatInt((steps-3)/2, 10), "count 0 1 3", "step 0 1", "ret 0"}
	if steps%2 == 0 {
		lines = slices.Insert(lines, 1, "set 0 0")
		lines[3], lines[4] = "count 0 1 4", "step 0 2"
	}
	return text(lines...).Funcs[0]
}

// with is a function of some lines, which may call the function 1, and that one behind it.
func with(called api.Func, lines ...string) api.Module {
	lines = append(lines, "func "+called.Name+" 1 0", "ret 0")
	m := text(lines...)
	m.Funcs[1] = called
	return m
}

// P18.1: the greatest ceiling exactly, and one above it: what is above it first is where the fault is.
func TestGreatestCeiling(t *testing.T) {
	for _, steps := range []int64{4, 5, 6, 7, 100, 101, most - 1, most} {
		takes(t, "the test's own function", api.Module{Funcs: []api.Func{spent("g", steps)}}, steps)
	}
	refused(t, "rounds, one more", text("func f 2 0", "set 1 4611686018427387903", "count 0 1 3", "step 0 1", "ret 0"), api.ErrCeiling, 0, 1)
	refused(t, "rounds, two more", text("func f 2 0", "set 1 4611686018427387904", "count 0 1 3", "step 0 1", "ret 0"), api.ErrCeiling, 0, 1)
	refused(t, "a step behind them", text("func f 2 0", "set 1 4611686018427387902", "count 0 1 3", "step 0 1", "set 0 0", "ret 0"), api.ErrCeiling, 0, 4)
	refused(t, "two steps behind them", text("func f 2 0", "set 1 4611686018427387902", "count 0 1 3", "step 0 1", "set 0 0", "set 0 0", "ret 0"), api.ErrCeiling, 0, 4)
	refused(t, "a step ahead of them", text("func f 2 0", "set 0 0", "set 1 4611686018427387902", "count 0 1 4", "step 0 2", "ret 0"), api.ErrCeiling, 0, 3)
	takes(t, "at the beginning", text("func f 2 0 4611686018427387902 4611686018427387902", "count 1 0 2", "step 1 0", "ret 0"), most-1)
	refused(t, "at the beginning, one more", text("func f 2 0 0 4611686018427387903", "count 1 0 2", "step 1 0", "ret 0"), api.ErrCeiling, 0, 1)
	refused(t, "at the beginning, two more", text("func f 2 0 0 4611686018427387904", "count 1 0 2", "step 1 0", "ret 0"), api.ErrCeiling, 0, 0)
}

// P18.1: in the function that calls: at the call, at a weight behind it, and in which function it is.
func TestCeilingOfCalls(t *testing.T) {
	takes(t, "just as many", with(spent("g", most-5), "func f 1 0", "call 0 0 1", "ret 0"), most, most-5)
	refused(t, "at the ret", with(spent("g", most-4), "func f 1 0", "call 0 0 1", "ret 0"), api.ErrCeiling, 0, 1)
	refused(t, "at the call", with(spent("g", most-3), "func f 1 0", "call 0 0 1", "ret 0"), api.ErrCeiling, 0, 0)
	refused(t, "at the call, as much as may be", with(spent("g", most), "func f 1 0", "call 0 0 1", "ret 0"), api.ErrCeiling, 0, 0)
	refused(t, "behind other weights", with(spent("g", most-12), "func f 1 0", "div 0 0 0", "call 0 0 1", "ret 0"), api.ErrCeiling, 0, 2)
	refused(t, "at the call behind other weights", with(spent("g", most-11), "func f 1 0", "div 0 0 0", "call 0 0 1", "ret 0"), api.ErrCeiling, 0, 1)
	refused(t, "at a weight of 8", with(spent("g", most-5), "func f 1 0", "call 0 0 1", "div 0 0 0", "ret 0"), api.ErrCeiling, 0, 1)
	takes(t, "not reached", with(spent("g", most), "func f 1 0", "jump 2", "call 0 0 1", "ret 0"), 2, most)
	refused(t, "on a way that isn't gone", with(spent("g", most), "func f 1 0", "set 0 0", "if 0 3", "ret 0", "call 0 0 1", "ret 0"), api.ErrCeiling, 0, 3)
	two := api.Module{Funcs: []api.Func{spent("g", most), text("func g 1 0", "ret 0", "func f 1 0", "call 0 0 0", "ret 0").Funcs[1]}}
	refused(t, "of an earlier one", two, api.ErrCeiling, 1, 0)
	two.Funcs[0] = text("func g 3 0", "set 1 4611686018427387903", "count 0 1 3", "step 0 1", "ret 0").Funcs[0]
	refused(t, "in the one that is called", two, api.ErrCeiling, 0, 1)
	refused(t, "in the one that is called, the later one", with(two.Funcs[0], "func f 1 0", "call 0 0 1", "ret 0"), api.ErrCeiling, 1, 1)
	row := text("func f 1 0", "call 0 0 1", "ret 0", "func g 1 0", "call 0 0 2", "ret 0", "func h 1 0", "ret 0")
	row.Funcs[2] = spent("h", most-10)
	takes(t, "along a row", row, most, most-5, most-10)
	row.Funcs[2] = spent("h", most-9)
	refused(t, "along a row, one more", row, api.ErrCeiling, 0, 1)
	row.Funcs[2] = spent("h", most-4)
	refused(t, "along a row, in the middle", row, api.ErrCeiling, 1, 1)
}

// P18.1: no sum is brought round: calls whose steps together are above two words' halves, and above a word.
func TestSums(t *testing.T) {
	for _, calls := range []int{2, 3, 4, 5, 100, 1023} {
		lines := []string{"func f 1 0"}
		for range calls {
			lines = append(lines, "call 0 0 1")
		}
		lines = append(lines, "ret 0")
		refused(t, "as much as may be each", with(spent("g", most), lines...), api.ErrCeiling, 0, 0)
		share := int64(most) / int64(calls)
		refused(t, "a little more than a share", with(spent("g", share), lines...), api.ErrCeiling, 0, calls-1)
		fits := (most-1)/int64(calls) - 4
		takes(t, "a share", with(spent("g", fits), lines...), (fits+4)*int64(calls)+1, fits)
	}
}

// P18.1: no sum is brought round: what is above a whole word is above the greatest ceiling, though it would come to little.
func TestSumsAboveAWord(t *testing.T) {
	two := text("func f 1 0", "call 0 0 1", "call 0 0 2", "ret 0", "func g 1 0", "ret 0", "func h 1 0", "ret 0")
	two.Funcs[1], two.Funcs[2] = spent("g", most-4), spent("h", most)
	refused(t, "by one call upon as much as may be", two, api.ErrCeiling, 0, 1)
	row := []string{"func f 1 0", "jump 3", "move 0 0", "ret 0", "call 0 0 1", "call 0 0 1", "jump 1"}
	refused(t, "by a lower number", with(spent("g", most), row...), api.ErrCeiling, 0, 1)
	join := []string{"func f 1 0", "if 0 4", "move 0 0", "ret 0", "ret 0", "unless 0 8", "call 0 0 1", "call 0 0 1", "jump 2", "div 0 0 0", "div 0 0 0", "div 0 0 0", "jump 2"}
	refused(t, "where ways join, and the other one comes last", with(spent("g", most), join...), api.ErrCeiling, 0, 2)
	join = []string{"func f 1 0", "if 0 4", "move 0 0", "ret 0", "ret 0", "if 0 9", "div 0 0 0", "div 0 0 0", "div 0 0 0", "jump 2", "call 0 0 1", "call 0 0 1", "jump 2"}
	refused(t, "where ways join, and the other one comes first", with(spent("g", most), join...), api.ErrCeiling, 0, 2)
	loop := []string{"func f 3 0", "set 1 0", "count 0 1 7", "jump 4", "step 0 1", "call 2 2 1", "call 2 2 1", "jump 3", "ret 0"}
	refused(t, "in a loop without rounds", with(spent("g", most), loop...), api.ErrCeiling, 0, 3)
}

// P18.1: no product is brought round: rounds times their weight that would come to little, or to nothing.
func TestProducts(t *testing.T) {
	for _, l := range []struct{ rounds, body string }{
		{"4611686018427387904", "less 2 2 2"}, {"4611686018427387904", "load 2 2 0"}, {"2305843009213693952", "load 2 2 0"}, {"1844674407370955162", "div 2 2 2"}, {"3689348814741910324", "mul 2 2 2"},
		{"9223372036854775807", "set 2 2"}, {"9223372036854775806", "set 2 2"}, {"6148914691236517205", "set 2 2"}, {"6148914691236517206", "set 2 2"},
	} {
		refused(t, l.rounds+" of "+l.body, text("func f 3 1", "set 1 "+l.rounds, "count 0 1 4", l.body, "step 0 1", "ret 0"), api.ErrCeiling, 0, 1)
	}
	for _, span := range []api.Span{s(-1, most), s(least, most), s(least, 0), s(-1<<62, 1<<62)} {
		m := text("func f 2 0 0 0 0 0", "count 0 1 2", "step 0 0", "ret 0")
		m.Funcs[0].Params[0], m.Funcs[0].Params[1] = span, span
		refused(t, "2^63 rounds and more", m, api.ErrCeiling, 0, 0)
	}
	refused(t, "a product of two loops", text("func f 4 0 4294967296 4294967296", "count 1 0 5", "set 2 0", "count 2 0 4", "step 2 2", "step 1 0", "ret 0"), api.ErrCeiling, 0, 0)
	refused(t, "a heavy call, in four rounds", with(spent("g", 1<<62), "func f 3 0", "set 1 4", "count 0 1 4", "call 2 2 1", "step 0 1", "ret 0"), api.ErrCeiling, 0, 1)
	m := with(spent("g", most-6), "func f 3 0 0 0 0 0", "count 0 1 3", "call 2 2 1", "step 0 0", "ret 0")
	takes(t, "the heaviest round, never", m, 2, most-6)
	m.Funcs[0].Params[1].Hi = 1
	refused(t, "the heaviest round, once", m, api.ErrCeiling, 0, 0)
	m.Funcs[0].Params = []api.Span{s(least, least), s(most, most)}
	refused(t, "the heaviest round, as often as may be", m, api.ErrCeiling, 0, 0)
}

// P18.1: within a loop: at each of its members, whether it has rounds or not; ahead of its spin.
func TestCeilingInLoops(t *testing.T) {
	loop := []string{"func f 3 0", "set 1 1", "count 0 1 4", "call 2 2 1", "step 0 1", "ret 0"}
	for _, rounds := range []string{"0", "1", "3"} {
		loop[1] = "set 1 " + rounds
		refused(t, "at the call", with(spent("g", most-4), loop...), api.ErrCeiling, 0, 2)
		refused(t, "at the step", with(spent("g", most-5), loop...), api.ErrCeiling, 0, 3)
	}
	refused(t, "three rounds", with(spent("g", most-6), loop...), api.ErrCeiling, 0, 1)
	loop[1] = "set 1 1"
	refused(t, "one round, which is as heavy as may be", with(spent("g", most-6), loop...), api.ErrCeiling, 0, 1)
	refused(t, "one round, and the count again", with(spent("g", most-7), loop...), api.ErrCeiling, 0, 1)
	refused(t, "one round, and half of another one", with(spent("g", most-8), loop...), api.ErrCeiling, 0, 2)
	loop[1] = "set 1 0"
	refused(t, "no rounds, but in the whole function", with(spent("g", most-6), loop...), api.ErrCeiling, 0, 3)
	takes(t, "no rounds", with(spent("g", most-7), loop...), 3, most-7)
}

// P18.1: of the members, and of the whole function's instructions, the one of the least number is told, whichever comes first.
func TestCeilingByNumber(t *testing.T) {
	loop := []string{"func f 3 0", "set 1 1", "count 0 1 6", "jump 4", "step 0 1", "call 2 2 1", "jump 3", "ret 0"}
	for _, steps := range []int64{most, most - 6, most - 7} {
		refused(t, "a step ahead of the call", with(spent("g", steps), loop...), api.ErrCeiling, 0, 3)
	}
	refused(t, "no member", with(spent("g", most-8), loop...), api.ErrCeiling, 0, 1)
	loop[1] = "set 1 0"
	takes(t, "no member, no rounds", with(spent("g", most-9), loop...), 3, most-9)
	straight := []string{"func f 1 0", "jump 3", "move 0 0", "ret 0", "call 0 0 1", "jump 1"}
	for _, steps := range []int64{most, most - 4, most - 5, most - 6} {
		refused(t, "a move ahead of the call", with(spent("g", steps), straight...), api.ErrCeiling, 0, 1)
	}
	takes(t, "just as many", with(spent("g", most-8), straight...), most, most-8)
	refused(t, "a ret ahead of the call", with(spent("g", most-7), straight...), api.ErrCeiling, 0, 2)
	refused(t, "the first of two calls", with(spent("g", most), "func f 1 0", "if 0 3", "call 0 0 1", "ret 0", "call 0 0 1", "ret 0"), api.ErrCeiling, 0, 1)
}

// P18.1: the whole function's instructions within loops count though no ret is behind them: so a function is refused whose Steps would fit.
func TestCeilingOfMembers(t *testing.T) {
	takes(t, "just not", text("func f 3 0", "set 1 922337203685477579", "count 0 1 4", "div 2 2 2", "step 0 1", "ret 0"), 10*922337203685477579+3)
	refused(t, "a member", text("func f 3 0", "set 1 922337203685477580", "count 0 1 4", "div 2 2 2", "step 0 1", "ret 0"), api.ErrCeiling, 0, 2)
	// The greatest ceiling is 7 times 1317624576693539401, and one round weighs 7.
	seven := []string{"func f 3 1", "set 1 1317624576693539399", "count 0 1 5", "mul 2 2 2", "load 2 2 0", "step 0 1", "ret 0"}
	takes(t, "just not", text(seven...), most-14+3)
	seven[1] = "set 1 1317624576693539400"
	refused(t, "the step", text(seven...), api.ErrCeiling, 0, 4)
	seven[1] = "set 1 1317624576693539401"
	refused(t, "the head", text(seven...), api.ErrCeiling, 0, 1)
	refused(t, "a ret in a loop", with(spent("g", most-4), "func f 3 0", "count 0 1 4", "if 2 5", "step 0 0", "ret 0", "ret 0", "call 2 2 1", "ret 0"), api.ErrCeiling, 0, 5)
}

// P18.1: of the loops those with fewer members go first, of such with as many that of the lesser head; then the whole function.
func TestWhichLoop(t *testing.T) {
	two := []string{"func f 6 1", "set 1 4611686018427387904", "count 2 1 3", "step 2 1", "count 3 1 5", "step 3 3", "ret 0"}
	refused(t, "as many members", text(two...), api.ErrCeiling, 0, 1)
	refused(t, "fewer members", text("func f 6 1", "set 1 4611686018427387904", "count 2 1 4", "set 0 0", "step 2 1", "count 3 1 6", "step 3 4", "ret 0"), api.ErrCeiling, 0, 4)
	refused(t, "fewer members, lighter by far", text("func f 6 1", "set 1 4611686018427387904", "count 2 1 4", "div 0 0 1", "step 2 1", "count 3 1 6", "step 3 4", "ret 0"), api.ErrCeiling, 0, 4)
	refused(t, "fewer members, fewer rounds", text("func f 6 1", "set 1 3074457345618258603", "set 4 9223372036854775807", "count 2 1 5", "set 0 0", "step 2 2", "count 3 4 9", "set 0 0", "set 0 0", "step 3 5", "ret 0"), api.ErrCeiling, 0, 2)
	refused(t, "as many members, the greater head comes first", text("func f 6 1", "set 1 4611686018427387904", "jump 5", "count 2 1 4", "step 2 2", "ret 0", "count 3 1 2", "step 3 5"), api.ErrCeiling, 0, 2)
	refused(t, "three, the middle one has the fewest", text("func f 6 1", "set 1 4611686018427387904", "count 2 1 5", "set 0 0", "set 0 0", "step 2 1", "count 3 1 7", "step 3 5", "count 4 1 10", "set 0 0", "step 4 7", "ret 0"), api.ErrCeiling, 0, 5)
	refused(t, "three, the one with the fewest fits", text("func f 6 1", "set 1 3074457345618258603", "count 2 1 5", "set 0 0", "set 0 0", "step 2 1", "count 3 1 7", "step 3 5", "count 4 1 10", "set 0 0", "step 4 7", "ret 0"), api.ErrCeiling, 0, 7)
	heavy := spent("g", most)
	refused(t, "ahead of the whole function", with(heavy, "func f 6 1", "call 2 2 1", "set 1 4611686018427387904", "count 2 1 4", "step 2 2", "ret 0"), api.ErrCeiling, 0, 2)
	refused(t, "ahead of members of a longer one", with(heavy, "func f 6 1", "set 1 4611686018427387904", "count 2 1 4", "call 0 0 1", "step 2 1", "count 3 1 6", "step 3 4", "ret 0"), api.ErrCeiling, 0, 4)
	refused(t, "the spin of one ahead of members of another one with as many", with(heavy, "func f 6 1", "set 1 4611686018427387904", "count 2 1 4", "set 0 0", "step 2 1", "count 3 1 7", "call 0 0 1", "step 3 4", "ret 0"), api.ErrCeiling, 0, 1)
	refused(t, "members of one ahead of the spin of another one with as many", with(heavy, "func f 6 1", "set 1 4611686018427387904", "count 2 1 4", "call 0 0 1", "step 2 1", "count 3 1 7", "set 0 0", "step 3 4", "ret 0"), api.ErrCeiling, 0, 2)
	refused(t, "members of the whole function behind a loop", with(heavy, "func f 6 1", "set 1 4", "call 0 0 1", "count 2 1 4", "step 2 2", "ret 0"), api.ErrCeiling, 0, 1)
}

// P18.1: a spin that is the greatest ceiling exactly is none above it: the fault is another loop's, which has more members.
func TestSpinExactly(t *testing.T) {
	lines := []string{"func f 6 1", "set 1 9223372036854775807", "set 3 1317624576693539401", "count 2 1 7", "set 0 0", "set 0 0", "set 0 0", "step 2 2", "count 4 3 11", "mul 0 0 0", "load 0 0 0", "step 4 7", "ret 0"}
	refused(t, "exactly", text(lines...), api.ErrCeiling, 0, 2)
	lines[2] = "set 3 1317624576693539402"
	refused(t, "one round more", text(lines...), api.ErrCeiling, 0, 7)
	lines[2], lines[9] = "set 3 3074457345618258602", "set 0 0"
	lines = slices.Delete(lines, 10, 11)
	lines[8], lines[10] = "count 4 3 10", "step 4 7"
	refused(t, "one below", text(lines...), api.ErrCeiling, 0, 2)
	lines[2] = "set 3 3074457345618258603"
	refused(t, "two above", text(lines...), api.ErrCeiling, 0, 7)
}

// P18.1: loops within one another: the inner one's own numbers, what it is in the outer one, and the outer one's rounds.
func TestCeilingOfNests(t *testing.T) {
	nest := func(outer, inner, body string) api.Module {
		return text("func f 6 1", "set 1 "+outer, "set 2 "+inner, "count 3 1 8", "set 4 0", "count 4 2 7", body, "step 4 4", "step 3 2", "ret 0")
	}
	refused(t, "both", nest("4611686018427387904", "4611686018427387904", "set 5 5"), api.ErrCeiling, 0, 4)
	refused(t, "the inner one", nest("2", "3074457345618258603", "set 5 5"), api.ErrCeiling, 0, 4)
	takes(t, "the outer one has no rounds", nest("0", "9223372036854775807", "set 5 5"), 2+1+1)
	refused(t, "the outer one", nest("3074457345618258603", "1", "set 5 5"), api.ErrCeiling, 0, 2)
	refused(t, "both together", nest("3037000500", "3037000500", "set 5 5"), api.ErrCeiling, 0, 2)
	refused(t, "the inner head in the outer loop", nest("1", "3074457345618258602", "set 5 5"), api.ErrCeiling, 0, 4)
	refused(t, "the inner step in the outer loop", nest("1", "3074457345618258601", "set 5 5"), api.ErrCeiling, 0, 6)
	refused(t, "another member of the inner one in the outer loop", nest("1", "922337203685477580", "div 5 5 5"), api.ErrCeiling, 0, 5)
	refused(t, "a member of the outer one in the whole function", nest("1", "1844674407370955160", "mul 5 5 5"), api.ErrCeiling, 0, 3)
	refused(t, "the inner head in the whole function", nest("1", "1844674407370955159", "mul 5 5 5"), api.ErrCeiling, 0, 4)
	takes(t, "nowhere", nest("1", "922337203685477570", "mul 5 5 5"), 2+1+1+5*922337203685477570+1+1+1+1)
}

// P18.1: the functions go by the order of their calls: each one behind all that it calls, of several the least one.
func TestWhichFunction(t *testing.T) {
	own := []string{"set 1 9223372036854775807", "count 0 1 3", "step 0 1"}
	heavy := func(called ...string) []string {
		lines := slices.Clone(own)
		for _, fn := range called {
			lines = append(lines, "call 2 2 "+fn)
		}
		return append(lines, "ret 0")
	}
	light := func(called ...string) []string { return heavy(called...)[3:] }
	for _, l := range []struct {
		what    string
		fn      int
		f, g, h []string
	}{
		{"apart", 0, heavy(), heavy(), heavy()},
		{"the first one calls the second one", 1, heavy("1"), heavy(), heavy()},
		{"the first one calls the third one", 1, heavy("2"), heavy(), heavy()},
		{"the first one calls both", 1, heavy("2", "1"), heavy(), heavy()},
		{"a row", 2, heavy("1"), heavy("2"), heavy()},
		{"a row back", 0, heavy(), heavy("0"), heavy("1")},
		{"the last one calls", 0, heavy(), heavy(), heavy("0")},
		{"both call the one in the middle", 1, heavy("1"), heavy(), heavy("1")},
		{"what they call fits", 0, heavy("1"), light(), heavy("1")},
		{"a row whose end fits", 1, heavy("1"), heavy("2"), light()},
		{"a row whose middle fits", 2, heavy("1"), light("2"), heavy()},
		{"what waits is behind what doesn't", 1, light("2"), heavy(), heavy()},
		{"the one that calls is heavy by itself", 0, heavy("2", "1"), light("2"), light()},
		{"the last one alone", 2, light(), light("0"), heavy("1", "0")},
	} {
		m := text(slices.Concat([]string{"func f 3 0"}, l.f, []string{"func g 3 0"}, l.g, []string{"func h 3 0"}, l.h)...)
		refused(t, l.what, m, api.ErrCeiling, l.fn, 1)
	}
}
