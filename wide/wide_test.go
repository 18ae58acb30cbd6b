package wide_test

import (
	"testing"

	"soffit/api"
	"soffit/wide"
)

const (
	m    = 1<<64 - 1
	half = 1 << 63
)

// of is a number by its words.
func of(hi, lo uint64) api.Wide { return api.Wide{Hi: hi, Lo: lo} }

// P7.1: a word's number has that word below, and none above.
func TestOf(t *testing.T) {
	for _, n := range []uint64{0, 1, 5, 1<<32 - 1, 1 << 32, half - 1, half, m - 1, m} {
		if a := wide.Of(n); a != of(0, n) {
			t.Errorf("Of(%d): %v", n, a)
		}
	}
}

// P7.1: products that have and have no upper word, at both ends of either word.
func TestMul(t *testing.T) {
	for _, c := range []struct {
		a, b uint64
		want api.Wide
	}{
		{0, 0, of(0, 0)}, {0, 1, of(0, 0)}, {0, m, of(0, 0)}, {1, 1, of(0, 1)}, {1, m, of(0, m)}, {1, m - 1, of(0, m-1)},
		{3, 7, of(0, 21)}, {2, half - 1, of(0, m-1)}, {2, half, of(1, 0)}, {2, half + 1, of(1, 2)}, {2, m, of(1, m-1)}, {3, m, of(2, m-2)},
		{half, half, of(1<<62, 0)}, {half, m, of(half-1, half)}, {m, m - 1, of(m-2, 2)}, {m, m, of(m-1, 1)},
		{1 << 32, 1<<32 - 1, of(0, 1<<64-1<<32)}, {1 << 32, 1 << 32, of(1, 0)}, {1 << 32, 1<<32 + 3, of(1, 3<<32)}, {1<<32 + 1, 1<<32 - 1, of(0, m)}, {1<<32 + 1, 1<<32 + 1, of(1, 1<<33+1)}, {1<<32 - 1, 1<<32 - 1, of(0, m-1<<33+2)},
		{10, 1844674407370955161, of(0, m-5)}, {10, 1844674407370955162, of(1, 4)}, {4294967291, 4294967279, of(0, 18446743979220271189)},
	} {
		if p := wide.Mul(c.a, c.b); p != c.want {
			t.Errorf("Mul(%d, %d): %v, not %v", c.a, c.b, p, c.want)
		}
		if p := wide.Mul(c.b, c.a); p != c.want {
			t.Errorf("Mul(%d, %d): %v, not %v", c.b, c.a, p, c.want)
		}
	}
}

// P7.2: sums whose lower words carry, whose upper words do, and both; sums at 2^128 - 1 and above.
func TestAdd(t *testing.T) {
	for _, c := range []struct {
		a, b, want api.Wide
		ok         bool
	}{
		{of(0, 0), of(0, 0), of(0, 0), true}, {of(0, 3), of(0, 4), of(0, 7), true}, {of(3, 0), of(4, 0), of(7, 0), true}, {of(1, 2), of(3, 4), of(4, 6), true},
		{of(0, m), of(0, 0), of(0, m), true}, {of(0, m-1), of(0, 1), of(0, m), true},
		{of(0, m), of(0, 1), of(1, 0), true}, {of(0, m), of(0, m), of(1, m-1), true}, {of(0, half), of(0, half), of(1, 0), true}, {of(5, m), of(6, 2), of(12, 1), true}, {of(m-1, m), of(0, 1), of(m, 0), true}, {of(half-2, m), of(half, 1), of(m, 0), true},
		{of(m, m), of(0, 0), of(m, m), true}, {of(m, 0), of(0, m), of(m, m), true}, {of(m, m-1), of(0, 1), of(m, m), true}, {of(half, half), of(half-1, half-1), of(m, m), true}, {of(m-1, m), of(0, m), of(m, m-1), true}, {of(m-1, m), of(1, 0), of(m, m), true},
		{of(m, 0), of(1, 0), of(0, 0), false}, {of(half, 0), of(half, 0), of(0, 0), false}, {of(half, 5), of(half, 6), of(0, 0), false}, {of(m, 3), of(m, 4), of(0, 0), false}, {of(m, 0), of(1, m), of(0, 0), false},
		{of(m, m), of(0, 1), of(0, 0), false}, {of(m, 1), of(0, m), of(0, 0), false}, {of(half, half), of(half-1, half), of(0, 0), false}, {of(m-1, m), of(1, 1), of(0, 0), false}, {of(half-1, m), of(half, 1), of(0, 0), false},
		{of(m, m), of(1, 0), of(0, 0), false}, {of(m, m), of(m, m), of(0, 0), false}, {of(half, m), of(half, m), of(0, 0), false}, {of(m, half), of(m, half), of(0, 0), false},
	} {
		if s, ok := wide.Add(c.a, c.b); s != c.want || ok != c.ok {
			t.Errorf("Add(%v, %v): %v, %v; not %v, %v", c.a, c.b, s, ok, c.want, c.ok)
		}
		if s, ok := wide.Add(c.b, c.a); s != c.want || ok != c.ok {
			t.Errorf("Add(%v, %v): %v, %v; not %v, %v", c.b, c.a, s, ok, c.want, c.ok)
		}
	}
}

// P7.2: products by 0 and by 1, at both ends of either word, at 2^128 - 1 and above; also those of which the upper word's part alone has no room, and those of which the carry alone has none.
func TestTimes(t *testing.T) {
	for _, c := range []struct {
		a    api.Wide
		b    uint64
		want api.Wide
		ok   bool
	}{
		{of(0, 0), 0, of(0, 0), true}, {of(0, 0), m, of(0, 0), true}, {of(0, 1), 0, of(0, 0), true}, {of(1, 0), 0, of(0, 0), true}, {of(m, 0), 0, of(0, 0), true}, {of(m, m), 0, of(0, 0), true},
		{of(0, m), 1, of(0, m), true}, {of(1, 0), 1, of(1, 0), true}, {of(m, 0), 1, of(m, 0), true}, {of(m, m), 1, of(m, m), true}, {of(7, 8), 1, of(7, 8), true},
		{of(0, 6), 7, of(0, 42), true}, {of(6, 7), 8, of(48, 56), true}, {of(0, half), 2, of(1, 0), true}, {of(5, half), 2, of(11, 0), true}, {of(0, m), m, of(m-1, 1), true}, {of(1, 0), m, of(m, 0), true}, {of(0, 1), m, of(0, m), true},
		{of(1, 1), m, of(m, m), true}, {of(half-1, m), 2, of(m, m-1), true}, {of(half-1, half), 2, of(m, 0), true}, {of(m/3, m/3), 3, of(m, m), true}, {of(m/5, m/5), 5, of(m, m), true},
		{of(half, 0), 2, of(0, 0), false}, {of(2, 0), half, of(0, 0), false}, {of(half, 1), 2, of(0, 0), false}, {of(m, 0), 2, of(0, 0), false}, {of(m, 0), m, of(0, 0), false}, {of(2, 0), m, of(0, 0), false}, {of(1<<32, 0), 1 << 32, of(0, 0), false}, {of(1<<32+1, 5), 1 << 32, of(0, 0), false},
		{of(1, 2), m, of(0, 0), false}, {of(1, half), m, of(0, 0), false}, {of(1, m), m, of(0, 0), false}, {of(m/3, m/3+1), 3, of(0, 0), false}, {of(m/5, m/5+1), 5, of(0, 0), false}, {of(m/10, m), 10, of(0, 0), false},
		{of(m, m), 2, of(0, 0), false}, {of(m, m), m, of(0, 0), false}, {of(half, half), 2, of(0, 0), false},
	} {
		if p, ok := wide.Times(c.a, c.b); p != c.want || ok != c.ok {
			t.Errorf("Times(%v, %d): %v, %v; not %v, %v", c.a, c.b, p, ok, c.want, c.ok)
		}
	}
}

// P7.3: by the upper word alone, by the lower word alone, and where the two words say the contrary; each both ways round.
func TestCompare(t *testing.T) {
	for _, c := range []struct{ less, more api.Wide }{
		{of(0, 5), of(1, 5)}, {of(m-1, 0), of(m, 0)}, {of(0, m), of(m, m)}, {of(half-1, 3), of(half, 3)}, {of(1, 3), of(half, 3)},
		{of(0, 3), of(0, 4)}, {of(9, m-1), of(9, m)}, {of(m, 0), of(m, 1)}, {of(7, half-1), of(7, half)}, {of(7, 0), of(7, half)}, {of(0, 0), of(0, m)},
		{of(0, m), of(1, 0)}, {of(5, 6), of(6, 5)}, {of(m-1, m), of(m, 0)}, {of(half-1, m), of(half, 0)},
		{of(5, 5), of(6, 6)}, {of(0, 0), of(m, m)},
	} {
		if n := wide.Compare(c.less, c.more); n != -1 {
			t.Errorf("Compare(%v, %v): %d, not -1", c.less, c.more, n)
		}
		if n := wide.Compare(c.more, c.less); n != 1 {
			t.Errorf("Compare(%v, %v): %d, not 1", c.more, c.less, n)
		}
		for _, a := range []api.Wide{c.less, c.more} {
			if n := wide.Compare(a, a); n != 0 {
				t.Errorf("Compare(%v, %v): %d, not 0", a, a, n)
			}
		}
	}
}

// P7.4: what is at most 2^63 - 1, and what is not, by its lower word, its upper word, or both.
func TestFits(t *testing.T) {
	for _, n := range []int64{0, 1, 77, 1 << 32, api.MaxCeiling - 1, api.MaxCeiling} {
		if k, ok := wide.Fits(of(0, uint64(n))); k != n || !ok {
			t.Errorf("Fits of %d: %d, %v", n, k, ok)
		}
	}
	for _, a := range []api.Wide{of(0, half), of(0, half+1), of(0, m), of(1, 0), of(1, 5), of(1, half-1), of(1, half), of(half, 0), of(m, 0), of(m, 1), of(m, m)} {
		if k, ok := wide.Fits(a); k != 0 || ok {
			t.Errorf("Fits(%v): %d, %v", a, k, ok)
		}
	}
}
