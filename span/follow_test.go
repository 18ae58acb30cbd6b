package span_test

import (
	"math/rand/v2"
	"slices"
	"testing"

	"soffit/api"
	"soffit/span"
)

// value is what an operation makes of two numbers, as the code's table says; false: a trap.
func value(op int, x, y int64) (int64, bool) {
	switch op {
	case api.OpAdd, api.OpSub, api.OpMul:
		return map[int]int64{api.OpAdd: x + y, api.OpSub: x - y, api.OpMul: x * y}[op], true
	case api.OpDiv, api.OpRem:
		if y == 0 {
			return 0, false
		}
		if x == least && y == -1 {
			return map[int]int64{api.OpDiv: least, api.OpRem: 0}[op], true
		}
		return map[int]int64{api.OpDiv: x / y, api.OpRem: x % y}[op], true
	}
	if op == api.OpLess && x < y || op == api.OpEqual && x == y || op == api.OpNot && x == 0 {
		return 1, true
	}
	return 0, true
}

// small are all spans of numbers near 0, and the ones beside them that have none.
func small(most int64) []api.Span {
	var list []api.Span
	for lo := -most; lo <= most; lo++ {
		for hi := lo - 1; hi <= most; hi++ {
			list = append(list, s(lo, hi))
		}
	}
	return list
}

// values are all that an operation makes of the numbers of two small spans.
func values(op int, a, b api.Span) []int64 {
	var list []int64
	for x := a.Lo; x <= a.Hi; x++ {
		for y := b.Lo; y <= b.Hi; y++ {
			if v, ok := value(op, x, y); ok {
				list = append(list, v)
			}
		}
	}
	return list
}

// P8.3, P8.7: small spans held against each of their numbers: Do has every value; but for rests, whose span may have more, it goes from the least of them to the greatest; and it tells nothing, if there is none.
func TestSmallValues(t *testing.T) {
	for _, op := range operations {
		for _, a := range small(6) {
			for _, b := range small(6) {
				c, ok := span.Do(op, a, b)
				if op == api.OpNot {
					b = s(0, 0)
				}
				list := values(op, a, b)
				if len(list) == 0 {
					if ok || c != s(0, 0) {
						t.Errorf("Do(%d, %v, %v): %v, %v", op, a, b, c, ok)
					}
					continue
				}
				lo, hi := slices.Min(list), slices.Max(list)
				if !ok || c.Lo > lo || c.Hi < hi || op != api.OpRem && c != s(lo, hi) {
					t.Errorf("Do(%d, %v, %v): %v, %v; the values are %v", op, a, b, c, ok, list)
				}
			}
		}
	}
}

// numbersOf are numbers of a span: its ends, those at which something changes, and those beside its ends.
func numbersOf(a api.Span) []int64 {
	list := []int64{a.Lo, a.Hi}
	for _, n := range append([]int64{a.Lo + 1, a.Hi - 1, a.Lo/2 + a.Hi/2}, brinks...) {
		if a.Lo <= n && n <= a.Hi {
			list = append(list, n)
		}
	}
	slices.Sort(list)
	return slices.Compact(list)
}

// everyBrink are all spans from one number at which something changes to another.
func everyBrink() []api.Span {
	var list []api.Span
	for i, lo := range brinks {
		for _, hi := range brinks[i:] {
			list = append(list, s(lo, hi))
		}
	}
	return list
}

// trueOf holds Do and Below to having the value, and the numbers, of numbers in two spans.
func trueOf(t *testing.T, a, b api.Span) {
	t.Helper()
	for _, op := range operations {
		c, ok := span.Do(op, a, b)
		for _, x := range numbersOf(a) {
			for _, y := range numbersOf(b) {
				if v, is := value(op, x, y); is && (!ok || !span.Has(c, v)) {
					t.Errorf("Do(%d, %v, %v): %v, %v; but of %d and %d it is %d", op, a, b, c, ok, x, y, v)
				}
			}
		}
	}
	c, d, ok := span.Below(a, b)
	for _, x := range numbersOf(a) {
		for _, y := range numbersOf(b) {
			if x < y && (!ok || !span.Has(c, x) || !span.Has(d, y)) {
				t.Errorf("Below(%v, %v): %v, %v, %v; %d and %d are gone", a, b, c, d, ok, x, y)
			}
		}
	}
}

// P8.7: at all edges, and at random, the value of each operation is in what Do tells, and what Below leaves has all that may be.
func TestValues(t *testing.T) {
	every := everyBrink()
	for _, a := range every {
		for _, b := range every {
			trueOf(t, a, b)
		}
	}
	k := maker{rand.New(rand.NewPCG(8, 2))}
	for range 5000 {
		if a, b := k.span(), k.span(); has(a) && has(b) {
			trueOf(t, a, b)
		}
	}
}

// P8.4, P8.7: what is left by Below of small spans is just those numbers that have a number of the other span on the right side.
func TestSmallBelow(t *testing.T) {
	for _, a := range small(6) {
		for _, b := range small(6) {
			var under, over []int64
			for x := a.Lo; x <= a.Hi; x++ {
				for y := b.Lo; y <= b.Hi; y++ {
					if x < y {
						under, over = append(under, x), append(over, y)
					}
				}
			}
			c, d, ok := span.Below(a, b)
			if len(under) == 0 {
				notBelow(t, a, b)
			} else if !ok || c != s(slices.Min(under), slices.Max(under)) || d != s(slices.Min(over), slices.Max(over)) {
				t.Errorf("Below(%v, %v): %v, %v, %v", a, b, c, d, ok)
			}
		}
	}
}

// P8.2: what small spans have together, and what one of them has, number by number.
func TestSmallTogether(t *testing.T) {
	for _, a := range small(5) {
		for _, b := range small(5) {
			j := span.Join(a, b)
			m, ok := span.Meet(a, b)
			var one, both []int64
			for n := int64(-7); n <= 7; n++ {
				if within(a, n) || within(b, n) {
					one = append(one, n)
				}
				if within(a, n) && within(b, n) {
					both = append(both, n)
				}
			}
			if len(one) == 0 && j != b || len(one) > 0 && j != s(slices.Min(one), slices.Max(one)) {
				t.Errorf("Join(%v, %v): %v", a, b, j)
			}
			if len(both) == 0 && (ok || m != s(0, 0)) || len(both) > 0 && (!ok || m != s(slices.Min(both), slices.Max(both))) {
				t.Errorf("Meet(%v, %v): %v, %v", a, b, m, ok)
			}
		}
	}
}

// covers: whether a span has all that another one has.
func covers(more, less api.Span) bool {
	return !has(less) || has(more) && more.Lo <= less.Lo && less.Hi <= more.Hi
}

// noLess holds Do, Join and Meet of spans that have more to telling spans that have no less.
func noLess(t *testing.T, a, b, c, d api.Span) {
	t.Helper()
	for _, op := range operations {
		less, is := span.Do(op, a, b)
		if more, ok := span.Do(op, c, d); is && (!ok || !covers(more, less)) {
			t.Errorf("Do(%d) of %v, %v: %v; of %v, %v: %v, %v", op, a, b, less, c, d, more, ok)
		}
	}
	if less, more := span.Join(a, b), span.Join(c, d); !covers(more, less) {
		t.Errorf("Join of %v, %v: %v; of %v, %v: %v", a, b, less, c, d, more)
	}
	less, is := span.Meet(a, b)
	if more, ok := span.Meet(c, d); is && (!ok || !covers(more, less)) {
		t.Errorf("Meet of %v, %v: %v; of %v, %v: %v, %v", a, b, less, c, d, more, ok)
	}
}

// grown are the spans that have somewhat more: either end at the next number at which something changes.
func grown(a api.Span, marks []int64) []api.Span {
	lo, hi := slices.Index(marks, a.Lo), slices.Index(marks, a.Hi)
	var list []api.Span
	if lo > 0 {
		list = append(list, s(marks[lo-1], a.Hi))
	}
	if hi < len(marks)-1 {
		list = append(list, s(a.Lo, marks[hi+1]))
	}
	return list
}

// P8.7: spans that have more, step by step, at all edges; and small ones, of which some have none.
func TestMoreTellsNoLess(t *testing.T) {
	every := everyBrink()
	for _, a := range every {
		for _, b := range every {
			for _, c := range grown(a, brinks) {
				noLess(t, a, b, c, b)
				noLess(t, b, a, b, c)
			}
		}
	}
	few := small(2)
	for _, a := range few {
		for _, b := range few {
			for _, c := range few {
				for _, d := range few {
					if covers(c, a) && covers(d, b) {
						noLess(t, a, b, c, d)
					}
				}
			}
		}
	}
}

// P8.7: spans that have more, at random.
func TestMoreAtRandom(t *testing.T) {
	k := maker{rand.New(rand.NewPCG(8, 3))}
	for range 100000 {
		a, b := k.span(), k.span()
		noLess(t, a, b, modelJoin(a, k.span()), modelJoin(b, k.span()))
	}
}

// changes counts how often a span changes that is widened by a row of spans, behind its first number; each time it has both.
func changes(t *testing.T, row []api.Span, thresholds []int64) (int, api.Span) {
	t.Helper()
	now := span.Widen(s(1, 0), row[0], thresholds)
	n := 0
	for _, next := range row[1:] {
		then := span.Widen(now, next, thresholds)
		if !covers(then, now) || !covers(then, next) {
			t.Errorf("Widen(%v, %v, %v): %v", now, next, thresholds, then)
		}
		if then != now {
			n++
		}
		now = then
	}
	return n, now
}

// P8.7: a span that grows as slowly as it can, at either end, changes at each threshold and at the two ends beyond, and then no more.
func TestSlowGrowth(t *testing.T) {
	for n := range 17 {
		var thresholds []int64
		for i := range n {
			thresholds = append(thresholds, int64(i-n/3)*10+5)
		}
		// By one more each time, up and down in turn, past the last threshold on either side.
		row := []api.Span{s(0, 0)}
		for i := int64(1); i <= 200; i++ {
			row = append(row, s(i, i), s(-i, -i))
		}
		got, end := changes(t, row, thresholds)
		if got != n+2 || end != s(least, greatest) {
			t.Errorf("%d thresholds: %d changes, up to %v", n, got, end)
		}
	}
}

// P8.7: all rows of small spans, in any order, with some thresholds; counted.
func TestSmallGrowth(t *testing.T) {
	var some []api.Span
	for _, a := range small(2) {
		if has(a) {
			some = append(some, a)
		}
	}
	for _, thresholds := range [][]int64{nil, {0}, {1}, {-1, 1}, {1, -1, 1}, {2, -2}, {3, 2, 1}, {-2, 2, 0}} {
		for _, a := range some {
			for _, b := range some {
				for _, c := range some {
					for _, d := range some {
						// Widened twice by the same the span stays as it is.
						if n, _ := changes(t, []api.Span{a, b, b, c, c, d, d}, thresholds); n > len(thresholds)+2 || n > 3 {
							t.Errorf("%v %v %v %v with %v: %d changes", a, b, c, d, thresholds, n)
						}
					}
				}
			}
		}
	}
}

// P8.7: rows at random, of growing length.
func TestGrowthAtRandom(t *testing.T) {
	k := maker{rand.New(rand.NewPCG(8, 4))}
	for range 5000 {
		thresholds := make([]int64, k.IntN(17))
		for i := range thresholds {
			thresholds[i] = k.number()
		}
		var row []api.Span
		for size := 0; size < 63; size++ {
			n := int64(k.Uint64N(1 << size))
			row = append(row, s(n, n), s(-n, -n))
		}
		if n, _ := changes(t, row, thresholds); n > len(thresholds)+2 {
			t.Errorf("%v: %d changes", thresholds, n)
		}
	}
}
