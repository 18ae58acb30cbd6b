package span_test

import (
	"slices"
	"testing"

	"soffit/api"
	"soffit/span"
)

// operations are those of Do.
var operations = []int{api.OpAdd, api.OpSub, api.OpMul, api.OpDiv, api.OpRem, api.OpLess, api.OpEqual, api.OpNot}

type doing struct{ a, b, want api.Span }

// does holds Do of one operation to answers.
func does(t *testing.T, op int, all ...doing) {
	t.Helper()
	for _, c := range all {
		if got, ok := span.Do(op, c.a, c.b); got != c.want || !ok {
			t.Errorf("Do(%d, %v, %v): %v, %v; not %v", op, c.a, c.b, got, ok, c.want)
		}
	}
}

// none holds Do to having nothing to tell.
func none(t *testing.T, op int, a, b api.Span) {
	t.Helper()
	if got, ok := span.Do(op, a, b); got != s(0, 0) || ok {
		t.Errorf("Do(%d, %v, %v): %v, %v", op, a, b, got, ok)
	}
}

var all = s(least, greatest)

// P8.3: one number each is brought round; of more, sums that are just numbers, and one beyond, at either end.
func TestAdd(t *testing.T) {
	does(t, api.OpAdd,
		doing{s(1, 2), s(10, 20), s(11, 22)}, doing{s(-5, 3), s(-7, 9), s(-12, 12)}, doing{s(0, 0), s(-4, 4), s(-4, 4)}, doing{s(3, 3), s(4, 4), s(7, 7)},
		doing{s(greatest, greatest), s(0, 0), s(greatest, greatest)}, doing{s(greatest, greatest), s(1, 1), s(least, least)}, doing{s(greatest, greatest), s(2, 2), s(least+1, least+1)}, doing{s(greatest, greatest), s(greatest, greatest), s(-2, -2)},
		doing{s(least, least), s(0, 0), s(least, least)}, doing{s(least, least), s(-1, -1), s(greatest, greatest)}, doing{s(least, least), s(least, least), s(0, 0)}, doing{s(least, least), s(greatest, greatest), s(-1, -1)},
		doing{s(1, greatest-1), s(1, 1), s(2, greatest)}, doing{s(1, greatest), s(1, 1), all}, doing{s(1, greatest), s(0, 0), s(1, greatest)}, doing{s(1, 1), s(1, greatest-1), s(2, greatest)}, doing{s(1, 1), s(1, greatest), all}, doing{s(0, 1<<62), s(0, 1<<62-1), s(0, greatest)}, doing{s(0, 1<<62), s(0, 1<<62), all},
		doing{s(least+1, 0), s(-1, -1), s(least, -1)}, doing{s(least, 0), s(-1, -1), all}, doing{s(least, 0), s(0, 0), s(least, 0)}, doing{s(-1, 0), s(least+1, 5), s(least, 5)}, doing{s(-1, 0), s(least, 5), all}, doing{s(-1<<62, 0), s(-1<<62, 0), s(least, 0)}, doing{s(-1<<62-1, 0), s(-1<<62, 0), all},
		doing{s(least, greatest), s(0, 0), all}, doing{s(least, greatest), s(1, 1), all}, doing{s(least, greatest), s(least, greatest), all}, doing{s(greatest-1, greatest), s(1, 2), all}, doing{s(least, least+1), s(-2, -1), all}, doing{s(least, 0), s(0, greatest), all}, doing{s(least, least+1), s(greatest, greatest), s(-1, 0)}, doing{s(greatest-1, greatest), s(least, least), s(-2, -1)},
	)
}

// P8.3: likewise differences: the second span's ends change places.
func TestSub(t *testing.T) {
	does(t, api.OpSub,
		doing{s(1, 2), s(10, 20), s(-19, -8)}, doing{s(-5, 3), s(-7, 9), s(-14, 10)}, doing{s(0, 0), s(-4, 9), s(-9, 4)}, doing{s(3, 3), s(4, 4), s(-1, -1)},
		doing{s(least, least), s(1, 1), s(greatest, greatest)}, doing{s(least, least), s(0, 0), s(least, least)}, doing{s(0, 0), s(least, least), s(least, least)}, doing{s(-1, -1), s(least, least), s(greatest, greatest)}, doing{s(greatest, greatest), s(-1, -1), s(least, least)}, doing{s(greatest, greatest), s(least, least), s(-1, -1)}, doing{s(least, least), s(greatest, greatest), s(1, 1)}, doing{s(least, least), s(least, least), s(0, 0)},
		doing{s(1, greatest-1), s(-1, -1), s(2, greatest)}, doing{s(1, greatest), s(-1, -1), all}, doing{s(1, greatest), s(0, 0), s(1, greatest)}, doing{s(-1, -1), s(least, 0), s(-1, greatest)}, doing{s(-1, 0), s(least, 0), all}, doing{s(0, 0), s(least+1, 0), s(0, greatest)}, doing{s(0, 0), s(least, 0), all}, doing{s(0, 5), s(least+6, 0), s(0, greatest)}, doing{s(0, 5), s(least+5, 0), all},
		doing{s(least+1, 0), s(0, 1), s(least, 0)}, doing{s(least, 0), s(0, 1), all}, doing{s(least, 0), s(0, 0), s(least, 0)}, doing{s(-1, -1), s(0, greatest), s(least, -1)}, doing{s(-2, -1), s(0, greatest), all}, doing{s(-2, -1), s(0, greatest-1), s(least, -1)},
		doing{s(least, greatest), s(0, 0), all}, doing{s(least, greatest), s(1, 1), all}, doing{s(least, greatest), s(least, greatest), all}, doing{s(greatest-1, greatest), s(-2, -1), all}, doing{s(least, least+1), s(1, 2), all}, doing{s(least, least+3), s(least, least), s(0, 3)}, doing{s(greatest-3, greatest), s(greatest, greatest), s(-3, 0)},
	)
}

// P8.3: likewise products: each of the four may be the least, the greatest, or the one that is no number.
func TestMul(t *testing.T) {
	const root = 3037000499 // its square is the greatest that is a number
	does(t, api.OpMul,
		doing{s(-3, 2), s(-5, 4), s(-12, 15)}, doing{s(2, 3), s(4, 5), s(8, 15)}, doing{s(-3, -2), s(-5, -4), s(8, 15)}, doing{s(-3, -2), s(4, 5), s(-15, -8)}, doing{s(2, 3), s(-5, -4), s(-15, -8)}, doing{s(-3, 4), s(5, 6), s(-18, 24)}, doing{s(-3, 4), s(-6, -5), s(-24, 18)}, doing{s(-3, 4), s(-6, 5), s(-24, 20)}, doing{s(-3, 4), s(-2, 9), s(-27, 36)}, doing{s(0, 0), s(-7, 9), s(0, 0)}, doing{s(0, 5), s(0, 7), s(0, 35)}, doing{s(6, 6), s(7, 7), s(42, 42)},
		doing{s(1<<62, 1<<62), s(2, 2), s(least, least)}, doing{s(1<<62, 1<<62), s(6, 6), s(least, least)}, doing{s(1<<62, 1<<62), s(4, 4), s(0, 0)}, doing{s(least, least), s(-1, -1), s(least, least)}, doing{s(least, least), s(1, 1), s(least, least)}, doing{s(least, least), s(2, 2), s(0, 0)}, doing{s(least, least), s(least, least), s(0, 0)}, doing{s(greatest, greatest), s(greatest, greatest), s(1, 1)}, doing{s(greatest, greatest), s(2, 2), s(-2, -2)}, doing{s(greatest, greatest), s(-1, -1), s(least+1, least+1)}, doing{s(root+1, root+1), s(root+1, root+1), s(-9223372036709301616, -9223372036709301616)},
		doing{s(1, 1<<31), s(1, 1<<32-1), s(1, 1<<63-1<<31)}, doing{s(1, 1<<31), s(1, 1<<32), all}, doing{s(1<<31, 1<<32), s(1, 1<<31-1), s(1<<31, 1<<63-1<<32)}, doing{s(0, root), s(0, root), s(0, root*root)}, doing{s(0, root+1), s(0, root), s(0, root*(root+1))}, doing{s(0, root+1), s(0, root+1), all}, doing{s(0, greatest/7), s(0, 7), s(0, greatest)}, doing{s(0, greatest/7+1), s(0, 7), all}, doing{s(0, greatest), s(0, 1), s(0, greatest)}, doing{s(0, greatest), s(0, 2), all},
		doing{s(-1<<31, 0), s(0, 1<<32), s(least, 0)}, doing{s(-1<<31-1, 0), s(0, 1<<32), all}, doing{s(-1<<31, 0), s(-1<<32, 0), all}, doing{s(-1<<31, 0), s(-1<<32+1, 0), s(0, 1<<63-1<<31)}, doing{s(0, 1<<62), s(-2, 0), s(least, 0)}, doing{s(0, 1<<62), s(-3, 0), all}, doing{s(0, 1<<62), s(-2, 1), s(least, 1<<62)}, doing{s(0, 1<<62), s(-2, 2), all}, doing{s(-7, 0), s(0, greatest/7), s(-greatest, 0)}, doing{s(-7, 0), s(least/7, 0), s(0, greatest)}, doing{s(-7, 0), s(least/7-1, 0), all},
		doing{s(least, 0), s(1, 1), s(least, 0)}, doing{s(least, 1), s(0, 1), s(least, 1)}, doing{s(least, 1), s(-1, 1), all}, doing{s(least, least), s(0, 1), s(least, 0)}, doing{s(least, least), s(-1, 0), all}, doing{s(least, least+1), s(-1, -1), all}, doing{s(least+1, greatest), s(-1, -1), s(-greatest, greatest)}, doing{s(least+1, greatest), s(-1, 1), s(-greatest, greatest)}, doing{s(0, 1), s(least, greatest), all}, doing{s(0, 0), s(least, greatest), s(0, 0)}, doing{s(1, 1), s(least, greatest), all}, doing{s(least, greatest), s(least, greatest), all}, doing{s(-1, 1), s(least, 5), all},
	)
}

// P8.3: divisors with 0 at either end and in their midst, with -1 and 1 or without; the least number by -1.
func TestDiv(t *testing.T) {
	does(t, api.OpDiv,
		doing{s(-7, 9), s(-2, 3), s(-9, 9)}, doing{s(20, 30), s(0, 7), s(2, 30)}, doing{s(20, 30), s(-7, 0), s(-30, -2)}, doing{s(20, 30), s(-7, 7), s(-30, 30)}, doing{s(20, 30), s(0, 1), s(20, 30)}, doing{s(20, 30), s(-1, 0), s(-30, -20)}, doing{s(20, 30), s(-1, 1), s(-30, 30)}, doing{s(20, 30), s(-9, 1), s(-30, 30)}, doing{s(20, 30), s(-1, 9), s(-30, 30)},
		doing{s(20, 30), s(2, 7), s(2, 15)}, doing{s(20, 30), s(1, 7), s(2, 30)}, doing{s(20, 30), s(-7, -2), s(-15, -2)}, doing{s(20, 30), s(-7, -1), s(-30, -2)}, doing{s(-30, -20), s(2, 7), s(-15, -2)}, doing{s(-30, -20), s(-7, -2), s(2, 15)}, doing{s(-30, -20), s(0, 7), s(-30, -2)}, doing{s(-30, 20), s(2, 7), s(-15, 10)}, doing{s(-30, 20), s(-7, -2), s(-10, 15)}, doing{s(-30, 20), s(-3, 5), s(-30, 30)}, doing{s(-30, 20), s(0, 5), s(-30, 20)}, doing{s(-30, 20), s(-5, 0), s(-20, 30)},
		doing{s(-7, -7), s(2, 2), s(-3, -3)}, doing{s(7, 7), s(-2, -2), s(-3, -3)}, doing{s(-7, -7), s(-2, -2), s(3, 3)}, doing{s(7, 7), s(2, 2), s(3, 3)}, doing{s(-1, 1), s(2, 9), s(0, 0)}, doing{s(0, 0), s(-5, 5), s(0, 0)}, doing{s(3, 5), s(9, 99), s(0, 0)}, doing{s(3, 9), s(9, 99), s(0, 1)}, doing{s(-1, 9), s(5, 5), s(0, 1)},
		doing{s(least, least), s(-1, -1), all}, doing{s(least, 0), s(-1, 5), all}, doing{s(least, 0), s(-5, -1), all}, doing{s(least, greatest), s(-1, 0), all}, doing{s(least, -5), s(-3, 3), all}, doing{s(least, 0), s(-9, -2), s(0, 1<<62)}, doing{s(least, 0), s(0, 5), s(least, 0)}, doing{s(least, 0), s(1, 1), s(least, 0)}, doing{s(least, least), s(1, 2), s(least, -1<<62)}, doing{s(least, least), s(-3, -2), s(-(least / 3), 1<<62)}, doing{s(least, greatest), s(2, 2), s(-1<<62, 1<<62-1)}, doing{s(least, greatest), s(0, greatest), all}, doing{s(least, greatest), s(least, -2), s(-1<<62+1, 1<<62)},
		doing{s(least+1, 0), s(-1, 5), s(-greatest, greatest)}, doing{s(least+1, least+1), s(-1, -1), s(greatest, greatest)}, doing{s(least+1, greatest), s(-1, -1), s(-greatest, greatest)}, doing{s(greatest, greatest), s(-1, 0), s(-greatest, -greatest)}, doing{s(5, 9), s(least, greatest), s(-9, 9)}, doing{s(5, 9), s(least, 0), s(-9, 0)}, doing{s(least, least), s(least, least), s(1, 1)}, doing{s(greatest, greatest), s(least, least), s(0, 0)}, doing{s(least, greatest), s(greatest, greatest), s(-1, 1)}, doing{s(least, greatest), s(least, least), s(0, 1)},
	)
}

// P8.3: a rest has its dividend's sign, and lies nearer to 0 than the dividend or the farther end of the divisor.
func TestRem(t *testing.T) {
	does(t, api.OpRem,
		doing{s(-7, 90), s(-2, 10), s(-7, 9)}, doing{s(3, 4), s(100, 200), s(0, 4)}, doing{s(-90, 7), s(-2, 10), s(-9, 7)}, doing{s(-90, 90), s(-12, 10), s(-11, 11)}, doing{s(-90, 90), s(-10, 12), s(-11, 11)}, doing{s(-90, 90), s(-10, 10), s(-9, 9)}, doing{s(20, 30), s(7, 7), s(0, 6)}, doing{s(-30, -20), s(7, 7), s(-6, 0)}, doing{s(20, 30), s(-7, -7), s(0, 6)}, doing{s(-30, -20), s(-7, -3), s(-6, 0)},
		doing{s(0, 90), s(0, 10), s(0, 9)}, doing{s(-90, 0), s(0, 10), s(-9, 0)}, doing{s(-90, 90), s(-10, 0), s(-9, 9)}, doing{s(-90, 90), s(0, 1), s(0, 0)}, doing{s(-90, 90), s(-1, 0), s(0, 0)}, doing{s(-90, 90), s(-1, 1), s(0, 0)}, doing{s(-90, 90), s(1, 1), s(0, 0)}, doing{s(-90, 90), s(-1, -1), s(0, 0)}, doing{s(-90, 90), s(1, 2), s(-1, 1)}, doing{s(-90, 90), s(-2, -1), s(-1, 1)}, doing{s(-90, 90), s(-2, 1), s(-1, 1)}, doing{s(0, 0), s(5, 9), s(0, 0)}, doing{s(7, 7), s(7, 7), s(0, 6)},
		doing{s(-6, 6), s(7, 7), s(-6, 6)}, doing{s(-7, 7), s(7, 7), s(-6, 6)}, doing{s(-5, 5), s(7, 7), s(-5, 5)}, doing{s(-5, 8), s(7, 7), s(-5, 6)}, doing{s(-8, 5), s(7, 7), s(-6, 5)}, doing{s(1, 5), s(7, 7), s(0, 5)}, doing{s(-5, -1), s(7, 7), s(-5, 0)},
		doing{s(least, least), s(-1, -1), s(0, 0)}, doing{s(least, 0), s(-1, 1), s(0, 0)}, doing{s(least, least), s(least, least), s(-greatest, 0)}, doing{s(least, 5), s(least, least), s(-greatest, 5)}, doing{all, all, s(-greatest, greatest)}, doing{all, s(least, 0), s(-greatest, greatest)}, doing{all, s(0, greatest), s(-greatest+1, greatest-1)}, doing{all, s(least+1, 0), s(-greatest+1, greatest-1)}, doing{s(greatest, greatest), s(least, least), s(0, greatest)}, doing{s(greatest, greatest), s(greatest, greatest), s(0, greatest-1)}, doing{s(least+1, least+1), s(least, least), s(-greatest, 0)}, doing{all, s(-1, -1), s(0, 0)}, doing{all, s(2, 2), s(-1, 1)},
	)
}

// P8.3: nothing comes of a divisor that has 0 alone, whatever is divided.
func TestDivideByZero(t *testing.T) {
	for _, a := range slices.Concat(somethings, nothings) {
		none(t, api.OpDiv, a, s(0, 0))
		none(t, api.OpRem, a, s(0, 0))
	}
}

// P8.3: the three answers, and what lies just beside each.
func TestLess(t *testing.T) {
	does(t, api.OpLess,
		doing{s(1, 2), s(3, 4), s(1, 1)}, doing{s(1, 2), s(2, 4), s(0, 1)}, doing{s(1, 1), s(2, 2), s(1, 1)}, doing{s(-9, -1), s(0, 9), s(1, 1)}, doing{s(-9, 0), s(0, 9), s(0, 1)}, doing{s(least, least), s(greatest, greatest), s(1, 1)}, doing{s(least, greatest-1), s(greatest, greatest), s(1, 1)}, doing{s(least, least), s(least+1, greatest), s(1, 1)},
		doing{s(4, 9), s(1, 4), s(0, 0)}, doing{s(3, 9), s(1, 4), s(0, 1)}, doing{s(5, 9), s(1, 4), s(0, 0)}, doing{s(2, 2), s(2, 2), s(0, 0)}, doing{s(3, 3), s(2, 2), s(0, 0)}, doing{s(1, 9), s(1, 1), s(0, 0)}, doing{s(9, 9), s(1, 9), s(0, 0)}, doing{s(greatest, greatest), s(least, least), s(0, 0)}, doing{s(greatest, greatest), all, s(0, 0)}, doing{all, s(least, least), s(0, 0)}, doing{s(least, least), s(least, least), s(0, 0)},
		doing{s(1, 3), s(2, 2), s(0, 1)}, doing{s(2, 2), s(1, 3), s(0, 1)}, doing{s(1, 5), s(1, 5), s(0, 1)}, doing{s(1, 2), s(1, 2), s(0, 1)}, doing{all, all, s(0, 1)}, doing{all, s(greatest, greatest), s(0, 1)}, doing{s(least, least), all, s(0, 1)}, doing{s(0, 9), s(-5, 5), s(0, 1)}, doing{s(-5, 5), s(0, 9), s(0, 1)},
	)
}

// P8.3: likewise.
func TestEqual(t *testing.T) {
	does(t, api.OpEqual,
		doing{s(2, 2), s(2, 2), s(1, 1)}, doing{s(0, 0), s(0, 0), s(1, 1)}, doing{s(-3, -3), s(-3, -3), s(1, 1)}, doing{s(least, least), s(least, least), s(1, 1)}, doing{s(greatest, greatest), s(greatest, greatest), s(1, 1)},
		doing{s(1, 2), s(3, 4), s(0, 0)}, doing{s(3, 4), s(1, 2), s(0, 0)}, doing{s(2, 2), s(3, 3), s(0, 0)}, doing{s(3, 3), s(2, 2), s(0, 0)}, doing{s(-2, -2), s(2, 2), s(0, 0)}, doing{s(least, -1), s(0, greatest), s(0, 0)}, doing{s(least, least), s(greatest, greatest), s(0, 0)}, doing{s(1, 1), s(2, 9), s(0, 0)},
		doing{s(1, 2), s(2, 4), s(0, 1)}, doing{s(2, 4), s(1, 2), s(0, 1)}, doing{s(1, 2), s(1, 2), s(0, 1)}, doing{s(1, 2), s(1, 1), s(0, 1)}, doing{s(1, 2), s(2, 2), s(0, 1)}, doing{s(2, 2), s(1, 9), s(0, 1)}, doing{s(2, 2), s(1, 2), s(0, 1)}, doing{s(2, 2), s(2, 3), s(0, 1)}, doing{all, all, s(0, 1)}, doing{all, s(least, least), s(0, 1)}, doing{s(greatest, greatest), all, s(0, 1)}, doing{s(least, 0), s(0, greatest), s(0, 1)},
	)
}

// P8.3: the second span isn't looked at, whether it has numbers or not.
func TestNot(t *testing.T) {
	for _, b := range slices.Concat(somethings, nothings) {
		does(t, api.OpNot,
			doing{s(0, 0), b, s(1, 1)},
			doing{s(1, 1), b, s(0, 0)}, doing{s(-1, -1), b, s(0, 0)}, doing{s(1, 9), b, s(0, 0)}, doing{s(-9, -1), b, s(0, 0)}, doing{s(least, least), b, s(0, 0)}, doing{s(greatest, greatest), b, s(0, 0)}, doing{s(least, -1), b, s(0, 0)}, doing{s(1, greatest), b, s(0, 0)},
			doing{s(-1, 1), b, s(0, 1)}, doing{s(0, 1), b, s(0, 1)}, doing{s(-1, 0), b, s(0, 1)}, doing{s(least, 0), b, s(0, 1)}, doing{s(0, greatest), b, s(0, 1)}, doing{all, b, s(0, 1)},
		)
		for _, a := range nothings {
			none(t, api.OpNot, a, b)
		}
	}
}

// P8.3: without numbers at the first place, at the second one, and at both.
func TestDoOfNothing(t *testing.T) {
	for _, op := range operations {
		for _, n := range nothings {
			for _, a := range slices.Concat(somethings, nothings) {
				none(t, op, n, a)
				if op != api.OpNot {
					none(t, op, a, n)
				}
			}
		}
	}
}

// P8.3: every number that is no operation of Do.
func TestNoOperation(t *testing.T) {
	others := []int{-1 << 63, -1<<63 + 1, -1 << 32, 1<<32 + api.OpAdd, 1<<62 + api.OpNot, 1<<63 - 2, 1<<63 - 1}
	for op := -70000; op <= 70000; op++ {
		if !slices.Contains(operations, op) {
			others = append(others, op)
		}
	}
	for _, op := range others {
		none(t, op, s(1, 1), s(1, 1))
		none(t, op, s(-3, 4), s(2, 9))
	}
	for _, op := range []int{api.OpRet, api.OpSet, api.OpMove, api.OpLoad, api.OpStore, api.OpCheck, api.OpJump, api.OpIf, api.OpUnless, api.OpCount, api.OpStep, api.OpCall, -1, 20, 1<<63 - 1} {
		for _, a := range slices.Concat(somethings, nothings) {
			for _, b := range slices.Concat(somethings, nothings) {
				none(t, op, a, b)
			}
		}
	}
}
