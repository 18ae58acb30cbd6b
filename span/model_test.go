package span_test

import (
	"math/big"
	"math/rand/v2"
	"slices"
	"testing"

	"soffit/api"
	"soffit/span"
)

// The model says the chapter in whole numbers without end: lists of all numbers at ends, of which the least and the greatest are taken.

func whole(n int64) *big.Int { return big.NewInt(n) }

// round is a number without end brought round modulo 2^64.
func round(n *big.Int) int64 {
	rest := new(big.Int).Mod(n, new(big.Int).Lsh(whole(1), 64))
	return int64(rest.Uint64())
}

// hull is from the least to the greatest of a list; false, if one of them is no number of 64 bits.
func hull(list []*big.Int) (api.Span, bool) {
	least, greatest := slices.MinFunc(list, (*big.Int).Cmp), slices.MaxFunc(list, (*big.Int).Cmp)
	if !least.IsInt64() || !greatest.IsInt64() {
		return api.Span{}, false
	}
	return s(least.Int64(), greatest.Int64()), true
}

func has(a api.Span) bool { return a.Lo <= a.Hi }

func alone(a api.Span) bool { return a.Lo == a.Hi }

// within is a number that lies in a span.
func within(a api.Span, n int64) bool {
	return whole(a.Lo).Cmp(whole(n)) <= 0 && whole(n).Cmp(whole(a.Hi)) <= 0
}

func ends(a api.Span) []int64 { return []int64{a.Lo, a.Hi} }

// modelReckon is add, sub and mul.
func modelReckon(with func(z, x, y *big.Int) *big.Int, a, b api.Span) api.Span {
	if alone(a) && alone(b) {
		n := round(with(new(big.Int), whole(a.Lo), whole(b.Lo)))
		return s(n, n)
	}
	var list []*big.Int
	for _, x := range ends(a) {
		for _, y := range ends(b) {
			list = append(list, with(new(big.Int), whole(x), whole(y)))
		}
	}
	if h, ok := hull(list); ok {
		return h
	}
	return s(-1<<63, 1<<63-1)
}

func modelDiv(a, b api.Span) api.Span {
	var list []*big.Int
	for _, d := range []int64{b.Lo, b.Hi, -1, 1} {
		if d == 0 || !within(b, d) {
			continue
		}
		for _, x := range ends(a) {
			list = append(list, new(big.Int).Quo(whole(x), whole(d)))
		}
	}
	// The least number by -1 is the one quotient of ends that is no number.
	if h, ok := hull(list); ok {
		return h
	}
	return s(-1<<63, 1<<63-1)
}

func modelRem(a, b api.Span) api.Span {
	m := new(big.Int).Abs(whole(b.Lo))
	if n := new(big.Int).Abs(whole(b.Hi)); n.Cmp(m) > 0 {
		m = n
	}
	m.Sub(m, whole(1))
	var out api.Span
	if a.Lo < 0 {
		out.Lo = a.Lo
		if low := new(big.Int).Neg(m); low.Cmp(whole(a.Lo)) > 0 {
			out.Lo = low.Int64()
		}
	}
	if a.Hi > 0 {
		out.Hi = a.Hi
		if m.Cmp(whole(a.Hi)) < 0 {
			out.Hi = m.Int64()
		}
	}
	return out
}

// modelTruth is 1, 0 or either.
func modelTruth(yes, no bool) api.Span {
	if yes {
		return s(1, 1)
	}
	if no {
		return s(0, 0)
	}
	return s(0, 1)
}

func modelDo(op int, a, b api.Span) (api.Span, bool) {
	if !has(a) || op != api.OpNot && !has(b) {
		return api.Span{}, false
	}
	switch op {
	case api.OpAdd:
		return modelReckon((*big.Int).Add, a, b), true
	case api.OpSub:
		return modelReckon((*big.Int).Sub, a, b), true
	case api.OpMul:
		return modelReckon((*big.Int).Mul, a, b), true
	case api.OpDiv, api.OpRem:
		if b.Lo == 0 && b.Hi == 0 {
			return api.Span{}, false
		}
		if op == api.OpDiv {
			return modelDiv(a, b), true
		}
		return modelRem(a, b), true
	case api.OpLess:
		return modelTruth(whole(a.Hi).Cmp(whole(b.Lo)) < 0, whole(a.Lo).Cmp(whole(b.Hi)) >= 0), true
	case api.OpEqual:
		return modelTruth(alone(a) && alone(b) && a.Lo == b.Lo, a.Hi < b.Lo || b.Hi < a.Lo), true
	case api.OpNot:
		return modelTruth(a.Lo == 0 && a.Hi == 0, a.Lo > 0 || a.Hi < 0), true
	}
	return api.Span{}, false
}

func modelJoin(a, b api.Span) api.Span {
	if !has(a) {
		return b
	}
	if !has(b) {
		return a
	}
	list := slices.Concat(ends(a), ends(b))
	return s(slices.Min(list), slices.Max(list))
}

func modelMeet(a, b api.Span) (api.Span, bool) {
	// What both have lies between the two in the middle, if they touch at all.
	if !has(a) || !has(b) || a.Hi < b.Lo || b.Hi < a.Lo {
		return api.Span{}, false
	}
	list := slices.Sorted(slices.Values(slices.Concat(ends(a), ends(b))))
	return s(list[1], list[2]), true
}

func modelBelow(a, b api.Span) (api.Span, api.Span, bool) {
	if !has(a) || !has(b) || whole(a.Lo).Cmp(whole(b.Hi)) >= 0 {
		return api.Span{}, api.Span{}, false
	}
	under, _ := modelMeet(a, s(-1<<63, b.Hi-1))
	over, _ := modelMeet(b, s(a.Lo+1, 1<<63-1))
	return under, over, true
}

func modelWiden(old, next api.Span, thresholds []int64) api.Span {
	if !has(old) {
		return next
	}
	if !has(next) {
		return old
	}
	list := append(slices.Clone(thresholds), -1<<63, 1<<63-1)
	slices.Sort(list)
	out := old
	if next.Lo < old.Lo {
		at, found := slices.BinarySearch(list, next.Lo)
		if !found {
			at--
		}
		out.Lo = list[at]
	}
	if next.Hi > old.Hi {
		at, _ := slices.BinarySearch(list, next.Hi)
		out.Hi = list[at]
	}
	return out
}

func modelLength(a, b api.Span) uint64 {
	n := new(big.Int).Sub(whole(b.Hi), whole(a.Lo))
	if n.Sign() <= 0 {
		return 0
	}
	return n.Uint64()
}

// against holds all functions against the model.
func against(t *testing.T, a, b api.Span) {
	t.Helper()
	for _, op := range operations {
		want, ok := modelDo(op, a, b)
		if got, is := span.Do(op, a, b); got != want || is != ok {
			t.Errorf("Do(%d, %v, %v): %v, %v; not %v, %v", op, a, b, got, is, want, ok)
		}
	}
	if got, want := span.Join(a, b), modelJoin(a, b); got != want {
		t.Errorf("Join(%v, %v): %v, not %v", a, b, got, want)
	}
	meet, together := modelMeet(a, b)
	if got, is := span.Meet(a, b); got != meet || is != together {
		t.Errorf("Meet(%v, %v): %v, %v; not %v, %v", a, b, got, is, meet, together)
	}
	under, over, ok := modelBelow(a, b)
	if c, d, is := span.Below(a, b); c != under || d != over || is != ok {
		t.Errorf("Below(%v, %v): %v, %v, %v; not %v, %v, %v", a, b, c, d, is, under, over, ok)
	}
	if got, want := span.Length(a, b), modelLength(a, b); got != want {
		t.Errorf("Length(%v, %v): %d, not %d", a, b, got, want)
	}
	for _, n := range []int64{b.Lo, b.Hi, a.Lo, a.Hi} {
		if span.Has(a, n) != within(a, n) {
			t.Errorf("Has(%v, %d): %v", a, n, !within(a, n))
		}
	}
}

func againstWiden(t *testing.T, a, b api.Span, thresholds []int64) {
	t.Helper()
	if got, want := span.Widen(a, b, thresholds), modelWiden(a, b, thresholds); got != want {
		t.Errorf("Widen(%v, %v, %v): %v, not %v", a, b, thresholds, got, want)
	}
}

// brinks are numbers at which something changes, rising.
var brinks = []int64{least, least + 1, least + 2, -1<<62 - 1, -1 << 62, -1 << 31, -3, -2, -1, 0, 1, 2, 3, 1<<31 + 1, 1<<62 - 1, 1 << 62, greatest - 1, greatest}

// P8.1 to P8.6: all pairs of spans between numbers at which something changes, those without numbers too.
func TestEdges(t *testing.T) {
	var every []api.Span
	for _, lo := range brinks {
		for _, hi := range brinks {
			every = append(every, s(lo, hi))
		}
	}
	for _, a := range every {
		for _, b := range every {
			against(t, a, b)
			againstWiden(t, a, b, []int64{1, -2, greatest - 1, least + 1, 1 << 31, -2})
		}
	}
}

// maker makes numbers at random, always the same ones, of any length, since evenly drawn ones are nearly all as long as can be.
type maker struct{ *rand.Rand }

func (k maker) number() int64 {
	n := int64(k.Uint64() >> k.IntN(65))
	switch k.IntN(8) {
	case 0:
		return n ^ least
	case 1:
		return brinks[k.IntN(len(brinks))]
	case 2, 3, 4:
		return -n
	}
	return n
}

// span makes one that has numbers, mostly.
func (k maker) span() api.Span {
	a := s(k.number(), k.number())
	if k.IntN(4) == 0 {
		a.Hi = a.Lo
	}
	if !has(a) && k.IntN(16) != 0 {
		return s(a.Hi, a.Lo)
	}
	return a
}

// P8.1 to P8.6: spans at random.
func TestRandom(t *testing.T) {
	k := maker{rand.New(rand.NewPCG(8, 1))}
	for range 100000 {
		a, b := k.span(), k.span()
		against(t, a, b)
		thresholds := make([]int64, k.IntN(6))
		for i := range thresholds {
			thresholds[i] = k.number()
			if k.IntN(3) == 0 {
				thresholds[i] = b.Lo + int64(k.IntN(3)) - 1
			} else if k.IntN(2) == 0 {
				thresholds[i] = b.Hi + int64(k.IntN(3)) - 1
			}
		}
		againstWiden(t, a, b, thresholds)
	}
}

func FuzzAgainstModel(f *testing.F) {
	f.Add(int64(-7), int64(9), int64(-2), int64(3), int64(4), int64(8))
	f.Add(int64(least), int64(greatest), int64(-1), int64(0), int64(least), int64(1))
	f.Fuzz(func(t *testing.T, lo, hi, low, high, first, second int64) {
		against(t, s(lo, hi), s(low, high))
		againstWiden(t, s(lo, hi), s(low, high), []int64{first, second})
	})
}
