package span_test

import (
	"math"
	"testing"

	"soffit/api"
	"soffit/span"
)

const (
	least    = math.MinInt64
	greatest = math.MaxInt64
)

func s(lo, hi int64) api.Span { return api.Span{Lo: lo, Hi: hi} }

// nothings are spans without numbers.
var nothings = []api.Span{s(1, 0), s(0, -1), s(5, 4), s(9, -9), s(greatest, least), s(greatest, greatest-1), s(least+1, least), s(greatest, 0), s(0, least)}

// somethings are spans that have numbers: one, several, and all.
var somethings = []api.Span{s(0, 0), s(1, 1), s(-1, -1), s(0, 1), s(-1, 0), s(-3, 7), s(5, 9), s(-9, -5), s(least, least), s(greatest, greatest), s(least, 0), s(0, greatest), s(least, -1), s(1, greatest), s(least+1, greatest-1), s(least, greatest)}

// P8.1: every number.
func TestAll(t *testing.T) {
	if a := span.All(); a != s(-1<<63, 1<<63-1) {
		t.Errorf("All: %v", a)
	}
	for _, n := range []int64{least, least + 1, -1, 0, 1, greatest - 1, greatest} {
		if !span.Has(span.All(), n) {
			t.Errorf("All hasn't %d", n)
		}
	}
}

// P8.1: both ends, what lies between them and beside them; spans without numbers have none, not even their ends.
func TestHas(t *testing.T) {
	for _, c := range []struct {
		a   api.Span
		in  []int64
		out []int64
	}{
		{s(1, 3), []int64{1, 2, 3}, []int64{least, -1, 0, 4, 5, greatest}},
		{s(-3, -1), []int64{-3, -2, -1}, []int64{least, -4, 0, 1, 2, 3, greatest}},
		{s(-2, 2), []int64{-2, -1, 0, 1, 2}, []int64{least, -3, 3, greatest}},
		{s(0, 0), []int64{0}, []int64{least, -1, 1, greatest}},
		{s(least, least), []int64{least}, []int64{least + 1, 0, greatest}},
		{s(greatest, greatest), []int64{greatest}, []int64{greatest - 1, 0, least}},
		{s(least, 0), []int64{least, least + 1, -1, 0}, []int64{1, greatest}},
		{s(0, greatest), []int64{0, 1, greatest - 1, greatest}, []int64{-1, least}},
		{s(least+1, greatest-1), []int64{least + 1, 0, greatest - 1}, []int64{least, greatest}},
	} {
		for _, n := range c.in {
			if !span.Has(c.a, n) {
				t.Errorf("%v hasn't %d", c.a, n)
			}
		}
		for _, n := range c.out {
			if span.Has(c.a, n) {
				t.Errorf("%v has %d", c.a, n)
			}
		}
	}
	for _, a := range nothings {
		for _, n := range []int64{a.Lo, a.Hi, least, -10, -9, -1, 0, 1, 4, 5, 9, 10, greatest} {
			if span.Has(a, n) {
				t.Errorf("%v has %d", a, n)
			}
		}
	}
}

// pairs are spans that touch, lie in one another, cross and lie apart: from the one's lesser Lo to the greater Hi, and what they have together.
var pairs = []struct {
	a, b, join api.Span
	meet       api.Span
	together   bool
}{
	{s(1, 2), s(3, 4), s(1, 4), s(0, 0), false},
	{s(1, 3), s(3, 4), s(1, 4), s(3, 3), true},
	{s(1, 5), s(4, 9), s(1, 9), s(4, 5), true},
	{s(1, 2), s(9, 9), s(1, 9), s(0, 0), false},
	{s(-9, -5), s(5, 9), s(-9, 9), s(0, 0), false},
	{s(0, 9), s(3, 4), s(0, 9), s(3, 4), true},
	{s(0, 9), s(0, 4), s(0, 9), s(0, 4), true},
	{s(0, 9), s(4, 9), s(0, 9), s(4, 9), true},
	{s(0, 9), s(0, 0), s(0, 9), s(0, 0), true},
	{s(-4, 4), s(0, 0), s(-4, 4), s(0, 0), true},
	{s(-7, 3), s(-7, 3), s(-7, 3), s(-7, 3), true},
	{s(5, 5), s(5, 5), s(5, 5), s(5, 5), true},
	{s(5, 5), s(6, 6), s(5, 6), s(0, 0), false},
	{s(least, -1), s(0, greatest), s(least, greatest), s(0, 0), false},
	{s(least, 0), s(0, greatest), s(least, greatest), s(0, 0), true},
	{s(least, 1), s(-1, greatest), s(least, greatest), s(-1, 1), true},
	{s(least, least), s(greatest, greatest), s(least, greatest), s(0, 0), false},
	{s(least, greatest), s(least, least), s(least, greatest), s(least, least), true},
	{s(least, greatest), s(greatest, greatest), s(least, greatest), s(greatest, greatest), true},
	{s(least, greatest), s(-3, 8), s(least, greatest), s(-3, 8), true},
	{s(greatest-1, greatest), s(least, greatest-1), s(least, greatest), s(greatest-1, greatest-1), true},
}

// P8.2: spans that have numbers, both ways round.
func TestJoinAndMeet(t *testing.T) {
	for _, c := range pairs {
		for _, p := range [][2]api.Span{{c.a, c.b}, {c.b, c.a}} {
			if j := span.Join(p[0], p[1]); j != c.join {
				t.Errorf("Join(%v, %v): %v, not %v", p[0], p[1], j, c.join)
			}
			if m, ok := span.Meet(p[0], p[1]); m != c.meet || ok != c.together {
				t.Errorf("Meet(%v, %v): %v, %v; not %v, %v", p[0], p[1], m, ok, c.meet, c.together)
			}
		}
	}
}

// P8.2: without numbers at the first place, at the second one, and at both.
func TestJoinAndMeetOfNothing(t *testing.T) {
	for _, n := range nothings {
		for _, a := range somethings {
			if j := span.Join(n, a); j != a {
				t.Errorf("Join(%v, %v): %v", n, a, j)
			}
			if j := span.Join(a, n); j != a {
				t.Errorf("Join(%v, %v): %v", a, n, j)
			}
			apart(t, n, a)
			apart(t, a, n)
		}
		for _, o := range nothings {
			if j := span.Join(n, o); j != o {
				t.Errorf("Join(%v, %v): %v", n, o, j)
			}
			apart(t, n, o)
		}
	}
}

func apart(t *testing.T, a, b api.Span) {
	t.Helper()
	if m, ok := span.Meet(a, b); m != s(0, 0) || ok {
		t.Errorf("Meet(%v, %v): %v, %v", a, b, m, ok)
	}
}

// P8.4: where several pairs of numbers are left, and where just one is; at both ends.
func TestBelow(t *testing.T) {
	for _, c := range []struct{ a, b, first, second api.Span }{
		{s(0, 9), s(0, 5), s(0, 4), s(1, 5)}, {s(0, 9), s(0, 9), s(0, 8), s(1, 9)}, {s(0, 5), s(0, 9), s(0, 5), s(1, 9)}, {s(0, 9), s(3, 5), s(0, 4), s(3, 5)}, {s(3, 5), s(0, 9), s(3, 5), s(4, 9)},
		{s(0, 2), s(5, 9), s(0, 2), s(5, 9)}, {s(0, 2), s(3, 9), s(0, 2), s(3, 9)}, {s(0, 2), s(2, 9), s(0, 2), s(2, 9)}, {s(0, 3), s(2, 3), s(0, 2), s(2, 3)}, {s(-9, -1), s(-5, -2), s(-9, -3), s(-5, -2)}, {s(-3, 8), s(-7, 2), s(-3, 1), s(-2, 2)},
		{s(4, 9), s(0, 5), s(4, 4), s(5, 5)}, {s(4, 4), s(5, 5), s(4, 4), s(5, 5)}, {s(4, 4), s(0, 5), s(4, 4), s(5, 5)}, {s(4, 9), s(5, 5), s(4, 4), s(5, 5)}, {s(-1, 7), s(-6, 0), s(-1, -1), s(0, 0)},
		{s(least, greatest), s(least, greatest), s(least, greatest-1), s(least+1, greatest)}, {s(least, least), s(greatest, greatest), s(least, least), s(greatest, greatest)},
		{s(least, greatest), s(least, least+1), s(least, least), s(least+1, least+1)}, {s(least, least), s(least, least+1), s(least, least), s(least+1, least+1)}, {s(least, least), s(least+1, least+1), s(least, least), s(least+1, least+1)},
		{s(greatest-1, greatest), s(least, greatest), s(greatest-1, greatest-1), s(greatest, greatest)}, {s(greatest-1, greatest), s(greatest, greatest), s(greatest-1, greatest-1), s(greatest, greatest)}, {s(greatest-1, greatest-1), s(greatest, greatest), s(greatest-1, greatest-1), s(greatest, greatest)},
		{s(least, least), s(least, greatest), s(least, least), s(least+1, greatest)}, {s(least, greatest), s(greatest, greatest), s(least, greatest-1), s(greatest, greatest)}, {s(least, greatest), s(0, 0), s(least, -1), s(0, 0)}, {s(0, 0), s(least, greatest), s(0, 0), s(1, greatest)},
	} {
		if a, b, ok := span.Below(c.a, c.b); a != c.first || b != c.second || !ok {
			t.Errorf("Below(%v, %v): %v, %v, %v; not %v, %v", c.a, c.b, a, b, ok, c.first, c.second)
		}
	}
}

// P8.4: where no number of the first span is below one of the second, and where one of them has none.
func TestNoneBelow(t *testing.T) {
	for _, c := range [][2]api.Span{
		{s(5, 9), s(0, 5)}, {s(6, 9), s(0, 5)}, {s(5, 5), s(5, 5)}, {s(6, 6), s(5, 5)}, {s(5, 9), s(5, 5)}, {s(5, 5), s(0, 5)}, {s(0, 9), s(-9, 0)}, {s(0, 9), s(-9, -1)},
		{s(least, least), s(least, least)}, {s(least, greatest), s(least, least)}, {s(greatest, greatest), s(greatest, greatest)}, {s(greatest, greatest), s(least, greatest)}, {s(greatest, greatest), s(least, least)}, {s(0, greatest), s(least, 0)},
	} {
		notBelow(t, c[0], c[1])
	}
	for _, n := range nothings {
		for _, a := range somethings {
			notBelow(t, n, a)
			notBelow(t, a, n)
		}
		for _, o := range nothings {
			notBelow(t, n, o)
		}
	}
}

func notBelow(t *testing.T, a, b api.Span) {
	t.Helper()
	if c, d, ok := span.Below(a, b); c != s(0, 0) || d != s(0, 0) || ok {
		t.Errorf("Below(%v, %v): %v, %v, %v", a, b, c, d, ok)
	}
}

// P8.6: at 0, at 1 and from the least number to the greatest; a.Hi and b.Lo are not looked at, even where a span has no number.
func TestLength(t *testing.T) {
	for _, c := range []struct {
		lo, hi int64
		want   uint64
	}{
		{3, 10, 7}, {3, 3, 0}, {3, 4, 1}, {3, 2, 0}, {3, 5, 2}, {0, 0, 0}, {0, 1, 1}, {-1, 0, 1}, {0, -1, 0}, {-4, -9, 0}, {-9, -4, 5}, {-5, 5, 10}, {5, -5, 0},
		{least, least, 0}, {least, least + 1, 1}, {least, -1, 1<<63 - 1}, {least, 0, 1 << 63}, {least, 1, 1<<63 + 1}, {least, greatest - 1, 1<<64 - 2}, {least + 1, greatest, 1<<64 - 2}, {least, greatest, 1<<64 - 1}, {least + 1, greatest - 1, 1<<64 - 3},
		{greatest, greatest, 0}, {greatest - 1, greatest, 1}, {0, greatest, 1<<63 - 1}, {-1, greatest, 1 << 63}, {greatest, least, 0}, {greatest, 0, 0}, {0, least, 0}, {1, least, 0}, {least + 1, least, 0}, {greatest, greatest - 1, 0},
	} {
		for _, n := range []int64{least, -9, -1, 0, 1, 3, 99, greatest} {
			for _, m := range []int64{least, -9, -1, 0, 1, 3, 99, greatest} {
				if got := span.Length(s(c.lo, n), s(m, c.hi)); got != c.want {
					t.Errorf("Length({%d, %d}, {%d, %d}): %d, not %d", c.lo, n, m, c.hi, got, c.want)
				}
			}
		}
	}
}
