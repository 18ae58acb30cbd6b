package span

import (
	"math"
	"math/bits"

	"soffit/api"
)

// Do tells where the value of an operation is; false: there is none.
func Do(op int, a, b api.Span) (api.Span, bool) {
	if empty(a) || empty(b) && op != api.OpNot {
		return api.Span{}, false
	}
	divide := quotients
	switch op {
	case api.OpAdd:
		return sums(a, b), true
	case api.OpSub:
		return differences(a, b), true
	case api.OpMul:
		return products(a, b), true
	case api.OpRem:
		divide = remainders
		fallthrough
	case api.OpDiv:
		if b == point(0) {
			return api.Span{}, false
		}
		return divide(a, b), true
	case api.OpLess:
		return truth(a.Hi < b.Lo, a.Lo >= b.Hi), true
	case api.OpEqual:
		_, together := Meet(a, b)
		return truth(single(a) && a == b, !together), true
	case api.OpNot:
		return truth(a == point(0), !Has(a, 0)), true
	}
	return api.Span{}, false
}

func sums(a, b api.Span) api.Span {
	lo, loFits := sum(a.Lo, b.Lo)
	hi, hiFits := sum(a.Hi, b.Hi)
	return settle(a, b, api.Span{Lo: lo, Hi: hi}, loFits && hiFits)
}

func differences(a, b api.Span) api.Span {
	lo, loFits := difference(a.Lo, b.Hi)
	hi, hiFits := difference(a.Hi, b.Lo)
	return settle(a, b, api.Span{Lo: lo, Hi: hi}, loFits && hiFits)
}

func products(a, b api.Span) api.Span {
	out, allFit := nothing(), true
	for _, x := range [2]int64{a.Lo, a.Hi} {
		for _, y := range [2]int64{b.Lo, b.Hi} {
			n, fits := product(x, y)
			out = Join(out, point(n))
			allFit = allFit && fits
		}
	}
	return settle(a, b, out, allFit)
}

// settle tells what is left of the values at the ends: a single value stands, brought round or not; where one of several is brought round, they may lie anywhere.
func settle(a, b, out api.Span, fits bool) api.Span {
	if fits || single(a) && single(b) {
		return out
	}
	return All()
}

// quotients tells where those are by the numbers of b but 0, of which it has one at least.
func quotients(a, b api.Span) api.Span {
	if Has(a, math.MinInt64) && Has(b, -1) {
		return All()
	}
	out := nothing()
	for _, d := range [4]int64{b.Lo, -1, 1, b.Hi} {
		if d != 0 && Has(b, d) {
			out = Join(out, Join(point(a.Lo/d), point(a.Hi/d)))
		}
	}
	return out
}

// remainders tells where those are by the numbers of b but 0, of which it has one at least.
func remainders(a, b api.Span) api.Span {
	most := int64(max(distance(b.Lo), distance(b.Hi)) - 1)
	return api.Span{Lo: min(0, max(a.Lo, -most)), Hi: max(0, min(a.Hi, most))}
}

// truth tells where 1 for yes and 0 for no may be.
func truth(always, never bool) api.Span {
	switch {
	case always:
		return point(1)
	case never:
		return point(0)
	}
	return api.Span{Lo: 0, Hi: 1}
}

// sum tells a sum, brought round, and whether that is the exact one.
func sum(x, y int64) (int64, bool) {
	n := x + y
	return n, (n < x) == (y < 0)
}

// difference tells a difference, brought round, and whether that is the exact one.
func difference(x, y int64) (int64, bool) {
	n := x - y
	return n, (n > x) == (y < 0)
}

// product tells a product, brought round, and whether that is the exact one.
func product(x, y int64) (int64, bool) {
	room := uint64(math.MaxInt64)
	if (x < 0) != (y < 0) {
		room++ // There is one number more below 0 than above.
	}
	hi, lo := bits.Mul64(distance(x), distance(y))
	return x * y, hi == 0 && lo <= room
}

// distance tells how far a number is from 0: of the least one that has room without a sign alone.
func distance(n int64) uint64 {
	if n < 0 {
		return -uint64(n)
	}
	return uint64(n)
}
