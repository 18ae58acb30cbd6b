package flow_test

import (
	"slices"
	"testing"

	"soffit/api"
	"soffit/flow"
)

// graphs are functions with few and with many edges.
func graphs() []api.Func {
	return []api.Func{
		of(), of(ret), of(set), of(jump(0)), of(when(0)), sample(), nested(), of(set, set, jump(1)), of(when(2), jump(2), jump(1)),
		of(append(times(1023, count(0)), ret)...), of(times(1024, unless(1023))...), of(times(1025, set)...),
	}
}

// P12.3: the pairs are Next's of each that can be reached, in its order, the first of them first.
func TestEdgesAreNexts(t *testing.T) {
	for _, f := range graphs() {
		var want []pair
		for u, ok := range flow.Reach(f) {
			if !ok {
				continue
			}
			for _, v := range flow.Next(f, u) {
				want = append(want, pair{u, v})
			}
		}
		if l := collect(flow.Edges(f)); !slices.Equal(l, want) {
			t.Errorf("Edges(%s): %s, not %s", short(f.Code), short(l), short(want))
		}
	}
}

// P12.3: one u's pairs stand in Next's order, also where that falls.
func TestEdgesOrder(t *testing.T) {
	f := of(set, count(0), unless(1), when(5), step(3), ret)
	want := []pair{{0, 1}, {1, 2}, {1, 0}, {2, 3}, {2, 1}, {3, 4}, {3, 5}, {4, 3}}
	if l := collect(flow.Edges(f)); !slices.Equal(l, want) {
		t.Errorf("%v, not %v", l, want)
	}
}

// P12.3: whoever stops behind a pair is told nothing more, and may go through all of them again.
func TestEdgesLeft(t *testing.T) {
	for _, f := range graphs() {
		seq := flow.Edges(f)
		want := collect(seq)
		for stop := 1; stop <= len(want); stop++ {
			var told []pair
			seq(func(u, v int) bool {
				told = append(told, pair{u, v})
				return len(told) < stop
			})
			if !slices.Equal(told, want[:stop]) {
				t.Fatalf("Edges(%s), left behind %d: %s, not %s", short(f.Code), stop, short(told), short(want[:stop]))
			}
			if stop > 40 && stop < len(want)-40 {
				continue
			}
			if l := collect(seq); !slices.Equal(l, want) {
				t.Fatalf("Edges(%s), gone through again when left behind %d: %s, not %s", short(f.Code), stop, short(l), short(want))
			}
		}
	}
}

// P12.3: a loop may be left, and gone on with from the beginning.
func TestEdgesBreak(t *testing.T) {
	seq := flow.Edges(sample())
	for range 3 {
		var told []pair
		for u, v := range seq {
			if told = append(told, pair{u, v}); u == 1 {
				break
			}
		}
		if want := []pair{{0, 1}, {0, 4}, {1, 2}}; !slices.Equal(told, want) {
			t.Errorf("%v, not %v", told, want)
		}
	}
}

// P12.3: gone through again, and by two at once, one within the other, each of them left where it likes.
func TestEdgesWithin(t *testing.T) {
	for _, f := range []api.Func{sample(), nested(), of(set, set, jump(1))} {
		seq := flow.Edges(f)
		want := collect(seq)
		for stop := range len(want) {
			var outer []pair
			for u, v := range seq {
				outer = append(outer, pair{u, v})
				var inner []pair
				for x, y := range seq {
					if inner = append(inner, pair{x, y}); len(inner) > stop {
						break
					}
				}
				if !slices.Equal(inner, want[:stop+1]) {
					t.Fatalf("within: %v, not %v", inner, want[:stop+1])
				}
			}
			if !slices.Equal(outer, want) {
				t.Fatalf("around: %v, not %v", outer, want)
			}
		}
	}
}

// P12.3: the same by two goroutines: who goes through shares nothing that is written.
func TestEdgesAtOnce(t *testing.T) {
	seq := flow.Edges(nested())
	want := collect(seq)
	got := make(chan []pair)
	for range 8 {
		go func() { got <- collect(seq) }()
	}
	for range 8 {
		if l := <-got; !slices.Equal(l, want) {
			t.Errorf("%v, not %v", l, want)
		}
	}
}
