package span_test

import (
	"slices"
	"testing"

	"soffit/api"
	"soffit/span"
)

// orders are all orders of a list.
func orders(list []int64) [][]int64 {
	if len(list) == 0 {
		return [][]int64{nil}
	}
	var all [][]int64
	for i, n := range list {
		for _, rest := range orders(slices.Delete(slices.Clone(list), i, i+1)) {
			all = append(all, append([]int64{n}, rest...))
		}
	}
	return all
}

// P8.5: each end grown, alone and with the other; thresholds in each order, twice the same one, none at all, at the ends themselves, beside them and beyond.
func TestWiden(t *testing.T) {
	for _, c := range []struct {
		old, next  api.Span
		thresholds []int64
		want       api.Span
	}{
		{s(0, 3), s(0, 5), []int64{4, 8}, s(0, 8)}, {s(0, 3), s(-1, 9), []int64{4, 8}, s(least, greatest)}, {s(0, 9), s(2, 3), []int64{4}, s(0, 9)}, {s(2, 3), s(3, 4), []int64{9, 4, 6}, s(2, 4)},
		{s(0, 3), s(0, 3), []int64{-1, 0, 3, 4}, s(0, 3)}, {s(0, 3), s(0, 3), nil, s(0, 3)}, {s(0, 3), s(1, 2), nil, s(0, 3)}, {s(0, 3), s(0, 0), []int64{1}, s(0, 3)}, {s(0, 3), s(3, 3), []int64{1}, s(0, 3)},
		{s(0, 3), s(0, 4), nil, s(0, greatest)}, {s(0, 3), s(-1, 3), nil, s(least, 3)}, {s(0, 3), s(-1, 4), nil, s(least, greatest)}, {s(0, 3), s(9, 9), nil, s(0, greatest)}, {s(0, 3), s(-9, -9), nil, s(least, 3)},
		{s(0, 3), s(0, 4), []int64{4}, s(0, 4)}, {s(0, 3), s(0, 4), []int64{5}, s(0, 5)}, {s(0, 3), s(0, 4), []int64{3}, s(0, greatest)}, {s(0, 3), s(4, 4), []int64{3, 4, 5}, s(0, 4)}, {s(0, 3), s(0, 5), []int64{3, 4}, s(0, greatest)},
		{s(0, 3), s(-1, 0), []int64{-1}, s(-1, 3)}, {s(0, 3), s(-1, 0), []int64{-2}, s(-2, 3)}, {s(0, 3), s(-1, 0), []int64{0}, s(least, 3)}, {s(0, 3), s(-1, -1), []int64{0, -1, -2}, s(-1, 3)}, {s(0, 3), s(-5, 0), []int64{-4, 0}, s(least, 3)},
		{s(0, 3), s(-2, 6), []int64{-9, -3, 2, 7, 12}, s(-3, 7)}, {s(0, 3), s(-2, 6), []int64{1, 2}, s(least, greatest)}, {s(0, 3), s(-2, 6), []int64{-2, 6}, s(-2, 6)}, {s(0, 3), s(-2, 6), []int64{-1, 5}, s(least, greatest)}, {s(0, 3), s(-2, 6), []int64{-3, 5}, s(-3, greatest)}, {s(0, 3), s(-2, 6), []int64{-1, 7}, s(least, 7)},
		{s(0, 3), s(0, 6), []int64{7, 7}, s(0, 7)}, {s(0, 3), s(-2, 6), []int64{7, -4, 7, -4}, s(-4, 7)}, {s(0, 3), s(0, 6), []int64{6, 9, 6, 9}, s(0, 6)}, {s(0, 3), s(-1, 4), []int64{1, 1}, s(least, greatest)},
		{s(5, 9), s(6, 12), []int64{0, 5, 10, 15}, s(5, 15)}, {s(5, 9), s(4, 8), []int64{0, 5, 10, 15}, s(0, 9)}, {s(5, 9), s(20, 30), []int64{0, 15, 25}, s(5, greatest)}, {s(5, 9), s(-30, -20), []int64{0, -15, -25}, s(least, 9)}, {s(5, 9), s(20, 30), []int64{15, 25, 35}, s(5, 35)},
		{s(0, 3), s(0, 4), []int64{least, greatest}, s(0, greatest)}, {s(0, 3), s(-1, 4), []int64{least, greatest}, s(least, greatest)}, {s(0, 3), s(-1, 4), []int64{least + 1, greatest - 1}, s(least+1, greatest-1)}, {s(0, 3), s(least, greatest), []int64{least + 1, greatest - 1}, s(least, greatest)}, {s(0, 3), s(least+1, greatest-1), []int64{least + 1, greatest - 1}, s(least+1, greatest-1)},
		{s(least, greatest), s(0, 0), []int64{-5, 5}, s(least, greatest)}, {s(least, 0), s(1, 1), []int64{-5, 5}, s(least, 5)}, {s(0, greatest), s(-1, -1), []int64{-5, 5}, s(-5, greatest)}, {s(least, least), s(least+1, least+1), []int64{least, -5, 5}, s(least, -5)}, {s(greatest, greatest), s(greatest-1, greatest), []int64{greatest, -5, 5}, s(5, greatest)},
	} {
		for _, o := range orders(c.thresholds) {
			if w := span.Widen(c.old, c.next, o); w != c.want {
				t.Errorf("Widen(%v, %v, %v): %v, not %v", c.old, c.next, o, w, c.want)
			}
		}
	}
}

// P8.5: without numbers at the first place, at the second one, and at both; then no threshold counts.
func TestWidenOfNothing(t *testing.T) {
	for _, thresholds := range [][]int64{nil, {}, {0}, {least, -20, -4, 0, 3, 20, greatest}} {
		for _, n := range nothings {
			for _, a := range somethings {
				if w := span.Widen(n, a, thresholds); w != a {
					t.Errorf("Widen(%v, %v, %v): %v", n, a, thresholds, w)
				}
				if w := span.Widen(a, n, thresholds); w != a {
					t.Errorf("Widen(%v, %v, %v): %v", a, n, thresholds, w)
				}
			}
			for _, o := range nothings {
				if w := span.Widen(n, o, thresholds); w != o {
					t.Errorf("Widen(%v, %v, %v): %v", n, o, thresholds, w)
				}
			}
		}
	}
}

// R3 and R4: Widen changes no threshold, reads no spare room, and answers again what it answered.
func TestWidenKeepsNothing(t *testing.T) {
	room := []int64{9, -7, 4, 4, 6, -3, 5, -2}
	given := slices.Clone(room)
	for range 2 {
		for n := range len(room) {
			want := span.Widen(s(0, 3), s(-1, 5), slices.Clone(room[:n]))
			if w := span.Widen(s(0, 3), s(-1, 5), given[:n]); w != want {
				t.Errorf("of %v: %v, not %v", room[:n], w, want)
			}
			if !slices.Equal(given, room) {
				t.Fatalf("thresholds are %v now", given)
			}
		}
	}
}
