package bounds_test

import (
	"strconv"
	"testing"

	"soffit/api"
)

// row is an instruction at 1 of four, where it is left to, and what three registers may hold ahead of it and behind it; none: that way is not gone.
type row struct {
	line     string
	to       int
	in, want []api.Span
}

// hold holds rows to what they tell, of a function of so many words.
func hold(t *testing.T, words int, rows []row) {
	t.Helper()
	for _, r := range rows {
		m := text("func f 3 "+strconv.Itoa(words), "ret 0", r.line, "ret 0", "ret 0")
		if len(r.want) == 0 {
			shut(t, r.line, m, 0, 1, r.to, r.in)
		} else {
			told(t, r.line, m, 0, 1, r.to, r.in, r.want...)
		}
	}
}

// P16.1: set and move.
func TestSetMove(t *testing.T) {
	in := l(s(1, 2), s(-3, 4), s(5, most))
	hold(t, 0, []row{
		{"set 0 5", 2, in, l(n(5), s(-3, 4), s(5, most))},
		{"set 1 0", 2, in, l(s(1, 2), n(0), s(5, most))},
		{"set 2 -1", 2, in, l(s(1, 2), s(-3, 4), n(-1))},
		{"set 0 9223372036854775807", 2, in, l(n(most), s(-3, 4), s(5, most))},
		{"set 0 -9223372036854775808", 2, in, l(n(least), s(-3, 4), s(5, most))},
		{"move 0 1", 2, in, l(s(-3, 4), s(-3, 4), s(5, most))},
		{"move 1 2", 2, in, l(s(1, 2), s(5, most), s(5, most))},
		{"move 2 0", 2, in, l(s(1, 2), s(-3, 4), s(1, 2))},
		{"move 1 1", 2, in, in},
		{"move 0 2", 2, l(n(0), n(0), all), l(all, n(0), all)},
	})
}

// P16.1: sums, differences and products, of other registers and of the same ones.
func TestReckon(t *testing.T) {
	in := l(s(1, 2), s(10, 20), s(-5, 3))
	hold(t, 0, []row{
		{"add 0 1 2", 2, in, l(s(5, 23), s(10, 20), s(-5, 3))},
		{"add 0 2 1", 2, in, l(s(5, 23), s(10, 20), s(-5, 3))},
		{"add 1 1 0", 2, in, l(s(1, 2), s(11, 22), s(-5, 3))},
		{"add 1 0 1", 2, in, l(s(1, 2), s(11, 22), s(-5, 3))},
		{"add 2 0 0", 2, in, l(s(1, 2), s(10, 20), s(2, 4))},
		{"add 2 2 2", 2, in, l(s(1, 2), s(10, 20), s(-10, 6))},
		{"add 0 1 2", 2, l(n(0), n(most), n(2)), l(n(least+1), n(most), n(2))},
		{"add 0 1 2", 2, l(n(0), s(1, most), n(1)), l(all, s(1, most), n(1))},
		{"add 0 1 2", 2, l(n(0), s(1, most), n(0)), l(s(1, most), s(1, most), n(0))},
		{"add 1 1 1", 2, l(n(0), n(least), n(0)), l(n(0), n(0), n(0))},
		{"sub 0 1 2", 2, in, l(s(7, 25), s(10, 20), s(-5, 3))},
		{"sub 0 2 1", 2, in, l(s(-25, -7), s(10, 20), s(-5, 3))},
		{"sub 1 1 0", 2, in, l(s(1, 2), s(8, 19), s(-5, 3))},
		{"sub 1 0 1", 2, in, l(s(1, 2), s(-19, -8), s(-5, 3))},
		{"sub 0 1 1", 2, in, l(s(-10, 10), s(10, 20), s(-5, 3))},
		{"sub 2 2 2", 2, in, l(s(1, 2), s(10, 20), s(-8, 8))},
		{"sub 2 2 2", 2, l(n(1), n(2), n(3)), l(n(1), n(2), n(0))},
		{"sub 0 1 2", 2, l(n(0), n(least), n(1)), l(n(most), n(least), n(1))},
		{"sub 0 1 2", 2, l(n(0), s(-1, 0), n(least)), l(all, s(-1, 0), n(least))},
		{"mul 0 1 2", 2, in, l(s(-100, 60), s(10, 20), s(-5, 3))},
		{"mul 1 1 0", 2, in, l(s(1, 2), s(10, 40), s(-5, 3))},
		{"mul 1 0 1", 2, in, l(s(1, 2), s(10, 40), s(-5, 3))},
		{"mul 0 2 2", 2, in, l(s(-15, 25), s(10, 20), s(-5, 3))},
		{"mul 2 2 2", 2, in, l(s(1, 2), s(10, 20), s(-15, 25))},
		{"mul 0 1 2", 2, l(n(0), n(least), n(-1)), l(n(least), n(least), n(-1))},
		{"mul 0 1 2", 2, l(n(0), s(least, 0), n(-1)), l(all, s(least, 0), n(-1))},
	})
}

// P16.1: less, equal and not, of other registers and of the same ones.
func TestTruth(t *testing.T) {
	in := l(s(1, 2), s(2, 4), s(3, 4))
	hold(t, 0, []row{
		{"less 0 0 2", 2, in, l(n(1), s(2, 4), s(3, 4))},
		{"less 2 0 2", 2, in, l(s(1, 2), s(2, 4), n(1))},
		{"less 1 2 0", 2, in, l(s(1, 2), n(0), s(3, 4))},
		{"less 0 1 2", 2, in, l(s(0, 1), s(2, 4), s(3, 4))},
		{"less 0 1 1", 2, in, l(s(0, 1), s(2, 4), s(3, 4))},
		{"less 1 1 1", 2, in, l(s(1, 2), s(0, 1), s(3, 4))},
		{"less 1 1 1", 2, l(n(1), n(2), n(3)), l(n(1), n(0), n(3))},
		{"less 0 1 2", 2, l(n(7), n(least), n(most)), l(n(1), n(least), n(most))},
		{"less 0 1 2", 2, l(n(7), all, all), l(s(0, 1), all, all)},
		{"equal 0 0 2", 2, in, l(n(0), s(2, 4), s(3, 4))},
		{"equal 2 1 2", 2, in, l(s(1, 2), s(2, 4), s(0, 1))},
		{"equal 1 1 1", 2, in, l(s(1, 2), s(0, 1), s(3, 4))},
		{"equal 1 1 1", 2, l(n(1), n(2), n(3)), l(n(1), n(1), n(3))},
		{"equal 0 1 2", 2, l(n(1), n(3), n(3)), l(n(1), n(3), n(3))},
		{"equal 0 1 2", 2, l(n(1), n(least), n(most)), l(n(0), n(least), n(most))},
		{"not 0 1", 2, in, l(n(0), s(2, 4), s(3, 4))},
		{"not 0 1", 2, l(s(2, 3), n(0), n(5)), l(n(1), n(0), n(5))},
		{"not 0 1", 2, l(s(2, 3), s(-1, 1), n(5)), l(s(0, 1), s(-1, 1), n(5))},
		{"not 2 2", 2, in, l(s(1, 2), s(2, 4), n(0))},
		{"not 1 1", 2, l(n(0), n(0), n(0)), l(n(0), n(1), n(0))},
		{"not 1 1", 2, l(n(0), s(0, 1), n(0)), l(n(0), s(0, 1), n(0))},
		{"not 1 0", 2, l(all, n(9), n(0)), l(all, s(0, 1), n(0))},
	})
}

// P16.1: a step to elsewhere, to the next one, and to itself.
func TestStepJump(t *testing.T) {
	in := l(s(1, 2), s(-5, 3), all)
	hold(t, 0, []row{
		{"step 0 0", 0, in, l(s(2, 3), s(-5, 3), all)},
		{"step 1 1", 1, in, l(s(1, 2), s(-4, 4), all)},
		{"step 1 2", 2, in, l(s(1, 2), s(-4, 4), all)},
		{"step 2 3", 3, in, l(s(1, 2), s(-5, 3), all)},
		{"step 0 0", 0, l(n(-1), n(1), n(2)), l(n(0), n(1), n(2))},
		{"step 0 0", 0, l(n(most), n(1), n(2)), l(n(least), n(1), n(2))},
		{"step 0 0", 0, l(s(most-1, most), n(1), n(2)), l(all, n(1), n(2))},
		{"step 0 0", 0, l(s(least, most-1), n(1), n(2)), l(s(least+1, most), n(1), n(2))},
		{"step 0 0", 0, l(n(least), n(1), n(2)), l(n(least+1), n(1), n(2))},
		{"jump 0", 0, in, in},
		{"jump 1", 1, in, in},
		{"jump 2", 2, in, in},
		{"jump 3", 3, in, in},
	})
}

// P16.1: div and rem: what is told, and the divisor without 0; what is named last stands where both are one.
func TestDivide(t *testing.T) {
	hold(t, 0, []row{
		{"div 0 1 2", 2, l(n(9), s(20, 30), s(2, 7)), l(s(2, 15), s(20, 30), s(2, 7))},
		{"div 0 1 2", 2, l(n(9), s(20, 30), s(0, 7)), l(s(2, 30), s(20, 30), s(1, 7))},
		{"div 0 1 2", 2, l(n(9), s(20, 30), s(-7, 0)), l(s(-30, -2), s(20, 30), s(-7, -1))},
		{"div 0 1 2", 2, l(n(9), s(20, 30), s(-7, 7)), l(s(-30, 30), s(20, 30), s(-7, 7))},
		{"div 0 1 2", 2, l(n(9), s(20, 30), s(0, 1)), l(s(20, 30), s(20, 30), n(1))},
		{"div 0 1 2", 2, l(n(9), s(20, 30), s(-1, 0)), l(s(-30, -20), s(20, 30), n(-1))},
		{"div 0 1 2", 2, l(n(9), s(20, 30), n(0)), nil},
		{"div 0 1 1", 2, l(n(9), n(0), n(5)), nil},
		{"div 0 1 2", 2, l(n(9), n(0), n(5)), l(n(0), n(0), n(5))},
		{"div 0 1 2", 2, l(n(9), n(least), n(-1)), l(all, n(least), n(-1))},
		{"div 0 1 2", 2, l(n(9), all, s(0, most)), l(all, all, s(1, most))},
		{"div 0 1 2", 2, l(n(9), all, s(least, 0)), l(all, all, s(least, -1))},
		{"div 2 1 2", 2, l(n(9), s(20, 30), s(0, 7)), l(n(9), s(20, 30), s(2, 30))},
		{"div 1 1 2", 2, l(n(9), s(20, 30), s(0, 7)), l(n(9), s(2, 30), s(1, 7))},
		{"div 0 1 1", 2, l(n(9), s(0, 7), n(5)), l(s(0, 7), s(1, 7), n(5))},
		{"div 1 1 1", 2, l(n(9), s(0, 7), n(5)), l(n(9), s(0, 7), n(5))},
		{"div 2 0 2", 2, l(n(0), n(5), s(0, 7)), l(n(0), n(5), n(0))},
		{"rem 0 1 2", 2, l(n(9), s(-7, 90), s(-2, 10)), l(s(-7, 9), s(-7, 90), s(-2, 10))},
		{"rem 0 1 2", 2, l(n(9), s(-7, 90), s(0, 5)), l(s(-4, 4), s(-7, 90), s(1, 5))},
		{"rem 0 1 2", 2, l(n(9), s(-7, 90), s(-5, 0)), l(s(-4, 4), s(-7, 90), s(-5, -1))},
		{"rem 0 1 2", 2, l(n(9), s(3, 4), s(0, 1)), l(n(0), s(3, 4), n(1))},
		{"rem 0 1 2", 2, l(n(9), s(3, 4), n(0)), nil},
		{"rem 1 1 1", 2, l(n(9), n(0), n(5)), nil},
		{"rem 2 1 2", 2, l(n(9), s(3, 40), s(0, 7)), l(n(9), s(3, 40), s(0, 6))},
		{"rem 1 1 2", 2, l(n(9), s(3, 40), s(0, 7)), l(n(9), s(0, 6), s(1, 7))},
		{"rem 0 1 1", 2, l(n(9), s(0, 7), n(5)), l(s(0, 6), s(1, 7), n(5))},
		{"rem 1 1 1", 2, l(n(9), s(0, 7), n(5)), l(n(9), s(0, 6), n(5))},
		{"rem 0 1 2", 2, l(n(9), n(least), n(-1)), l(n(0), n(least), n(-1))},
	})
}

// P16.1: load and store: the index lies at words that there are, of four of them; what is loaded may be anything.
func TestAccess(t *testing.T) {
	hold(t, 4, []row{
		{"load 0 1 0", 2, l(n(7), s(-9, 9), n(8)), l(all, s(0, 3), n(8))},
		{"load 0 1 0", 2, l(n(7), s(1, 2), n(8)), l(all, s(1, 2), n(8))},
		{"load 0 1 0", 2, l(n(7), all, n(8)), l(all, s(0, 3), n(8))},
		{"load 0 1 0", 2, l(n(7), s(3, 9), n(8)), l(all, n(3), n(8))},
		{"load 0 1 0", 2, l(n(7), s(-9, 0), n(8)), l(all, n(0), n(8))},
		{"load 0 1 0", 2, l(n(7), s(4, 9), n(8)), nil},
		{"load 0 1 0", 2, l(n(7), s(-9, -1), n(8)), nil},
		{"load 0 1 2", 2, l(n(7), s(-9, 9), n(8)), l(all, s(-2, 1), n(8))},
		{"load 0 1 -2", 2, l(n(7), s(-9, 9), n(8)), l(all, s(2, 5), n(8))},
		{"load 0 1 3", 2, l(n(7), n(0), n(8)), l(all, n(0), n(8))},
		{"load 0 1 4", 2, l(n(7), n(0), n(8)), nil},
		{"load 0 1 -1", 2, l(n(7), n(0), n(8)), nil},
		{"load 1 1 1", 2, l(n(7), s(0, 9), n(8)), l(n(7), all, n(8))},
		{"load 1 1 1", 2, l(n(7), s(3, 9), n(8)), nil},
		{"load 2 0 0", 2, l(s(2, 8), n(7), n(8)), l(s(2, 3), n(7), all)},
		{"store 0 1 0", 2, l(n(7), s(-9, 9), n(8)), l(n(7), s(0, 3), n(8))},
		{"store 0 1 0", 2, l(all, s(3, 9), n(8)), l(all, n(3), n(8))},
		{"store 0 1 0", 2, l(n(7), s(4, 9), n(8)), nil},
		{"store 0 1 2", 2, l(n(7), s(-9, 0), n(8)), l(n(7), s(-2, 0), n(8))},
		{"store 0 1 -2", 2, l(n(7), s(-9, 1), n(8)), nil},
		{"store 1 1 1", 2, l(n(7), s(-9, 9), n(8)), l(n(7), s(-1, 2), n(8))},
		{"store 2 0 0", 2, l(s(2, 8), n(7), n(8)), l(s(2, 3), n(7), n(8))},
	})
	hold(t, 1, []row{
		{"load 0 1 0", 2, l(n(7), s(-9, 9), n(8)), l(all, n(0), n(8))},
		{"load 0 1 -5", 2, l(n(7), s(-9, 9), n(8)), l(all, n(5), n(8))},
		{"store 0 1 5", 2, l(n(7), s(-9, 9), n(8)), l(n(7), n(-5), n(8))},
		{"store 0 1 0", 2, l(n(7), n(1), n(8)), nil},
		{"store 0 1 0", 2, l(n(7), n(-1), n(8)), nil},
	})
	for _, line := range []string{"load 0 1 0", "store 0 1 0", "load 1 1 0", "store 1 1 0", "load 0 1 1", "store 0 1 -1", "load 0 1 9223372036854775807", "store 0 1 -9223372036854775807", "store 0 1 -9223372036854775808"} {
		hold(t, 0, []row{{line, 2, l(n(7), all, n(8)), nil}, {line, 2, l(n(7), n(0), n(8)), nil}, {line, 2, l(n(7), n(-1), n(8)), nil}})
	}
}

// P16.1: the sum of the index and N is exact: it comes round at no end.
func TestAccessAtEnds(t *testing.T) {
	any := l(n(7), all, n(8))
	hold(t, 4, []row{
		{"load 0 1 9223372036854775807", 2, any, l(all, s(least+1, least+4), n(8))},
		{"load 0 1 9223372036854775807", 2, l(n(7), n(least), n(8)), nil},
		{"load 0 1 9223372036854775807", 2, l(n(7), s(least, least+1), n(8)), l(all, n(least+1), n(8))},
		{"load 0 1 9223372036854775806", 2, any, l(all, s(least+2, least+5), n(8))},
		{"load 0 1 9223372036854775807", 2, l(n(7), n(1), n(8)), nil},
		{"load 0 1 9223372036854775807", 2, l(n(7), s(-1, most), n(8)), nil},
		{"store 0 1 -9223372036854775808", 2, any, nil},
		{"store 0 1 -9223372036854775808", 2, l(n(7), n(least), n(8)), nil},
		{"store 0 1 -9223372036854775808", 2, l(n(7), n(most), n(8)), nil},
		{"store 0 1 -9223372036854775807", 2, any, l(n(7), n(most), n(8))},
		{"store 0 1 -9223372036854775806", 2, any, l(n(7), s(most-1, most), n(8))},
		{"store 0 1 -9223372036854775805", 2, any, l(n(7), s(most-2, most), n(8))},
		{"store 0 1 -9223372036854775804", 2, any, l(n(7), s(most-3, most), n(8))},
		{"store 0 1 -9223372036854775803", 2, any, l(n(7), s(most-4, most-1), n(8))},
		{"store 0 1 -9223372036854775807", 2, l(n(7), s(least, most-1), n(8)), nil},
	})
	hold(t, 1, []row{
		{"load 0 1 9223372036854775807", 2, any, l(all, n(least+1), n(8))},
		{"load 0 1 -9223372036854775807", 2, any, l(all, n(most), n(8))},
		{"load 0 1 -9223372036854775806", 2, any, l(all, n(most-1), n(8))},
		{"load 0 1 -9223372036854775808", 2, any, nil},
	})
	hold(t, 4096, []row{
		{"load 0 1 0", 2, any, l(all, s(0, 4095), n(8))},
		{"store 0 1 9223372036854775807", 2, any, l(n(7), s(least+1, least+4096), n(8))},
		{"store 0 1 -9223372036854771712", 2, any, l(n(7), s(most-4095, most), n(8))},
		{"store 0 1 -9223372036854771711", 2, any, l(n(7), s(most-4096, most-1), n(8))},
		{"store 0 1 -9223372036854771713", 2, any, l(n(7), s(most-4094, most), n(8))},
	})
}

// P16.1: check.
func TestCheck(t *testing.T) {
	hold(t, 0, []row{
		{"check 0 4", 2, l(s(-9, 9), n(1), n(2)), l(s(0, 3), n(1), n(2))},
		{"check 1 4", 2, l(n(9), s(1, 2), n(-2)), l(n(9), s(1, 2), n(-2))},
		{"check 2 4", 2, l(n(9), n(9), s(3, 9)), l(n(9), n(9), n(3))},
		{"check 2 4", 2, l(n(9), n(9), s(-3, 0)), l(n(9), n(9), n(0))},
		{"check 0 4", 2, l(s(4, 9), n(1), n(2)), nil},
		{"check 0 4", 2, l(s(-9, -1), n(1), n(2)), nil},
		{"check 0 1", 2, l(all, n(1), n(2)), l(n(0), n(1), n(2))},
		{"check 0 1", 2, l(n(1), n(1), n(2)), nil},
		{"check 0 4096", 2, l(all, n(1), n(2)), l(s(0, 4095), n(1), n(2))},
		{"check 0 4096", 2, l(n(4096), n(1), n(2)), nil},
		{"check 0 4096", 2, l(n(least), n(1), n(2)), nil},
	})
}

// P16.1: if and unless, on each of their ways, ahead, back and to itself.
func TestIfUnless(t *testing.T) {
	for _, to := range []int{0, 1, 3} {
		n0 := strconv.Itoa(to)
		for _, c := range []struct{ in, not, zero []api.Span }{
			{l(s(0, 4)), l(s(1, 4)), l(n(0))},
			{l(s(-4, 0)), l(s(-4, -1)), l(n(0))},
			{l(s(-4, 4)), l(s(-4, 4)), l(n(0))},
			{l(s(1, 4)), l(s(1, 4)), nil},
			{l(s(-4, -1)), l(s(-4, -1)), nil},
			{l(n(0)), nil, l(n(0))},
			{l(s(0, 1)), l(n(1)), l(n(0))},
			{l(s(-1, 0)), l(n(-1)), l(n(0))},
			{l(s(-1, 1)), l(s(-1, 1)), l(n(0))},
			{l(n(1)), l(n(1)), nil},
			{l(n(-1)), l(n(-1)), nil},
			{l(all), l(all), l(n(0))},
			{l(s(0, most)), l(s(1, most)), l(n(0))},
			{l(s(least, 0)), l(s(least, -1)), l(n(0))},
			{l(n(least)), l(n(least)), nil},
			{l(n(most)), l(n(most)), nil},
		} {
			in := append(c.in, n(0), s(3, 4))
			behind := func(a []api.Span) []api.Span {
				if len(a) == 0 {
					return nil
				}
				return append(a, n(0), s(3, 4))
			}
			hold(t, 0, []row{
				{"if 0 " + n0, to, in, behind(c.not)},
				{"if 0 " + n0, 2, in, behind(c.zero)},
				{"unless 0 " + n0, to, in, behind(c.zero)},
				{"unless 0 " + n0, 2, in, behind(c.not)},
			})
		}
		hold(t, 0, []row{
			{"if 2 " + n0, to, l(n(0), n(0), s(0, 4)), l(n(0), n(0), s(1, 4))},
			{"unless 1 " + n0, to, l(s(0, 4), s(0, 4), s(0, 4)), l(s(0, 4), n(0), s(0, 4))},
		})
	}
	for _, in := range []api.Span{n(0), s(0, 4), s(-4, 0), n(5), all} {
		hold(t, 0, []row{{"if 0 2", 2, l(in, n(0), n(5)), l(in, n(0), n(5))}, {"unless 0 2", 2, l(in, n(0), n(5)), l(in, n(0), n(5))}})
	}
}

// P16.1: count, on both of its ways, ahead, back and to itself.
func TestCount(t *testing.T) {
	for _, to := range []int{0, 1, 3} {
		for _, c := range []struct {
			a, b, on, out api.Span
			none          string
		}{
			{s(0, 9), s(3, 5), s(0, 4), s(3, 9), ""},
			{s(0, 4), s(5, 9), s(0, 4), n(0), "out"},
			{s(0, 5), s(5, 9), s(0, 5), n(5), ""},
			{s(5, 9), s(0, 5), n(0), s(5, 9), "on"},
			{s(4, 9), s(0, 5), n(4), s(4, 9), ""},
			{s(0, 9), s(0, 9), s(0, 8), s(0, 9), ""},
			{s(-9, 0), s(-3, 9), s(-9, 0), s(-3, 0), ""},
			{n(3), n(3), n(0), n(3), "on"},
			{n(3), n(4), n(3), n(0), "out"},
			{n(4), n(3), n(0), n(4), "on"},
			{all, all, s(least, most-1), all, ""},
			{all, n(least), n(0), all, "on"},
			{all, n(most), s(least, most-1), n(most), ""},
			{n(most), all, n(0), n(most), "on"},
			{n(least), all, n(least), n(least), ""},
			{n(least), n(most), n(least), n(0), "out"},
			{n(most), n(least), n(0), n(most), "on"},
		} {
			in := l(n(0), c.a, c.b)
			on, out := row{"count 1 2 " + strconv.Itoa(to), 2, in, l(n(0), c.on, c.b)}, row{"count 1 2 " + strconv.Itoa(to), to, in, l(n(0), c.out, c.b)}
			switch c.none {
			case "on":
				on.want = nil
			case "out":
				out.want = nil
			}
			hold(t, 0, []row{on, out})
		}
		for _, a := range []api.Span{n(0), s(0, 9), all, n(most), n(least)} {
			in := l(a, n(5), n(6))
			hold(t, 0, []row{{"count 0 0 " + strconv.Itoa(to), 2, in, nil}, {"count 0 0 " + strconv.Itoa(to), to, in, in}})
		}
		hold(t, 0, []row{
			{"count 2 0 " + strconv.Itoa(to), 2, l(s(3, 5), n(0), s(0, 9)), l(s(3, 5), n(0), s(0, 4))},
			{"count 2 0 " + strconv.Itoa(to), to, l(s(3, 5), n(0), s(0, 9)), l(s(3, 5), n(0), s(3, 9))},
		})
	}
	for _, in := range [][]api.Span{l(s(0, 9), s(3, 5), n(6)), l(n(3), n(4), n(6)), l(n(4), n(3), n(6)), l(all, all, n(6))} {
		hold(t, 0, []row{{"count 0 1 2", 2, in, in}, {"count 0 0 2", 2, in, in}, {"count 1 0 2", 2, in, in}, {"count 2 2 2", 2, in, in}})
	}
}
