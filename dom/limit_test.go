package dom_test

import (
	"testing"

	"soffit/api"
	"soffit/dom"
)

// P13.3: just so many instructions as there may be are told of.
func TestMostCode(t *testing.T) {
	if api.MaxCode != 1024 {
		t.Fatal("the test's own limit")
	}
	for _, x := range []api.Ins{ret, set, jump(0), jump(1), when(0), when(1023), count(1), step(1023), {Op: 20}} {
		f := of(times(1024, x)...)
		if l := dom.Tree(f); len(l) != 1024 || l[0] != -1 {
			t.Errorf("Tree of 1024 instructions %v tells of %d", x, len(l))
		}
		dominates(t, f, 0, 0, true)
	}
	f := of(append(times(1023, set), ret)...)
	dominates(t, f, 0, 1023, true)
	dominates(t, f, 1023, 1023, true)
	dominates(t, f, 1022, 1023, true)
	dominates(t, f, 1023, 1022, false)
	dominates(t, f, 1023, 1024, false)
	dominates(t, f, 1024, 1024, false)
}

// P13.3: of one more, and of many more, nothing is told, whatever they are.
func TestMoreCode(t *testing.T) {
	for _, length := range []int{1025, 1026, 2047, 2048, 2049, 5000, 1 << 16, 1 << 20} {
		for _, x := range []api.Ins{ret, set, jump(0), jump(1), when(0), count(1024), step(5), {Op: 20}} {
			f := of(times(length, x)...)
			if l := dom.Tree(f); len(l) != 0 {
				t.Errorf("Tree of %d instructions %v tells of %d", length, x, len(l))
			}
			for _, a := range []int{0, 1, 1023, 1024, length - 1, length, -1} {
				dominates(t, f, 0, a, false)
				dominates(t, f, a, a, false)
				dominates(t, f, a, 0, false)
			}
		}
	}
}

// P13.3: what counts is how many instructions there are, not how many of them can be reached, and not what lies in spare room.
func TestCounted(t *testing.T) {
	code := times(1025, ret)
	if len(dom.Tree(of(code[:1024]...))) != 1024 || !dom.Dominates(of(code[:1024]...), 0, 0) {
		t.Error("1024 instructions with one more in spare room are not told of")
	}
	if len(dom.Tree(of(code...))) != 0 || dom.Dominates(of(code...), 0, 0) {
		t.Error("1025 instructions of which one can be reached are told of")
	}
	tree(t, "a jump to what lies in spare room", of([]api.Ins{jump(1), ret}[:1]...), -1)
	dominates(t, of([]api.Ins{set, ret}[:1]...), 0, 1, false)
}
