package scan_test

import (
	"slices"
	"testing"
	"unsafe"

	"soffit/api"
	"soffit/scan"
)

const several = "fn f(n in 0..10) { return n <= 7; } # end"

// shares tells whether two texts have a byte of memory in common.
func shares(a, b string) bool {
	if a == "" || b == "" {
		return false
	}
	x, y := uintptr(unsafe.Pointer(unsafe.StringData(a))), uintptr(unsafe.Pointer(unsafe.StringData(b)))
	return x < y+uintptr(len(b)) && y < x+uintptr(len(a))
}

func apart(t *testing.T, src string, l []api.Token) {
	t.Helper()
	for i, x := range l {
		if shares(x.Text, src) {
			t.Errorf("token %d, %q, shares memory with the source", i, x.Text)
		}
		for j, y := range l[:i] {
			if shares(x.Text, y.Text) {
				t.Errorf("tokens %d and %d share memory", i, j)
			}
		}
	}
}

// P1.4: no answer shares memory with the source, no two of its texts with one another.
func TestApart(t *testing.T) {
	src := string([]byte(several))
	l, e, _ := scan.All(src)
	if e != api.OK || len(l) != 16 {
		t.Fatalf("%d tokens, %d", len(l), e)
	}
	apart(t, src, l)
	apart(t, src, slices.Collect(scan.Tokens(src)))
}

// P1.4: what is done with one answer, its spare room too, shows in no other one.
func TestAnswersApart(t *testing.T) {
	first, _, _ := scan.All(several)
	want := slices.Clone(first)
	second, _, _ := scan.All(several)
	clear(second[:cap(second)])
	if third, _, _ := scan.All(several); !slices.Equal(first, want) || !slices.Equal(third, want) {
		t.Error("an answer was changed by way of another one")
	}
}

// P1.4: the iterator has a text of its own, so that whoever made the source out of bytes may go on using these.
func TestSourceNotKept(t *testing.T) {
	bytes := []byte(several)
	src := unsafe.String(&bytes[0], len(bytes))
	want, _, _ := scan.All(several)
	l, _, _ := scan.All(src)
	seq := scan.Tokens(src)
	if string(bytes) != several {
		t.Error("the source was changed")
	}
	for i := range bytes {
		bytes[i] = '&'
	}
	if !slices.Equal(l, want) {
		t.Errorf("All's answer hangs on the source's memory: %v", l)
	}
	if got := slices.Collect(seq); !slices.Equal(got, want) {
		t.Errorf("the iterator hangs on the source's memory: %v", got)
	}
}
