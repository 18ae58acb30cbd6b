package code_test

import (
	"slices"
	"strings"
	"testing"

	"soffit/api"
	"soffit/code"
)

const (
	least = -1 << 63
	most  = 1<<63 - 1
)

// operation is a line of the document's table: the fields that it has, what it writes and what it reads, by their letters.
type operation struct {
	op     int
	word   string
	weight int64
	fields string
	writes string
	reads  string
}

var operations = []operation{
	{0, "ret", 1, "A", "", "A"},
	{1, "set", 1, "AN", "A", ""},
	{2, "move", 1, "AB", "A", "B"},
	{3, "add", 1, "ABC", "A", "BC"},
	{4, "sub", 1, "ABC", "A", "BC"},
	{5, "mul", 3, "ABC", "A", "BC"},
	{6, "div", 8, "ABC", "A", "BC"},
	{7, "rem", 8, "ABC", "A", "BC"},
	{8, "less", 1, "ABC", "A", "BC"},
	{9, "equal", 1, "ABC", "A", "BC"},
	{10, "not", 1, "AB", "A", "B"},
	{11, "load", 2, "ABN", "A", "B"},
	{12, "store", 2, "ABN", "", "AB"},
	{13, "check", 1, "AN", "", "A"},
	{14, "jump", 1, "N", "", ""},
	{15, "if", 1, "AN", "", "A"},
	{16, "unless", 1, "AN", "", "A"},
	{17, "count", 1, "ABN", "", "AB"},
	{18, "step", 1, "AN", "A", "A"},
	{19, "call", 4, "ABN", "A", "B*"},
}

// noOperations are at and beside the first and the last operation, and far off; some are an operation's but for their upper bits.
var noOperations = []int{-1, -2, -19, -20, 20, 21, 22, 255, 256, 256 + 3, 1<<32 + 3, most, most - 1, least, least + 3, least + 1}

// numbers are such as stand in fields where nobody asks whether they may.
var numbers = []int{0, 1, 2, 7, 63, 64, -1, -2, most, least, least + 1}

// P9.1: each of the 20 operations.
func TestOperations(t *testing.T) {
	for i, o := range operations {
		if o.op != i || len(operations) != 20 {
			t.Fatal("the test's own table")
		}
		if !code.Known(o.op) {
			t.Errorf("Known(%d): false", o.op)
		}
		if n := code.Weight(o.op); n != o.weight {
			t.Errorf("Weight(%d): %d, not %d", o.op, n, o.weight)
		}
		if s := code.Word(o.op); s != o.word {
			t.Errorf("Word(%d): %q, not %q", o.op, s, o.word)
		}
	}
}

// P9.1: numbers that are none.
func TestNoOperations(t *testing.T) {
	for _, op := range noOperations {
		if code.Known(op) || code.Weight(op) != 0 || code.Word(op) != "" {
			t.Errorf("%d: %v, %d, %q", op, code.Known(op), code.Weight(op), code.Word(op))
		}
	}
}

// P9.1: the constants of api stand for the operations of the table's words.
func TestConstants(t *testing.T) {
	for op, word := range map[int]string{
		api.OpRet: "ret", api.OpSet: "set", api.OpMove: "move", api.OpAdd: "add", api.OpSub: "sub", api.OpMul: "mul", api.OpDiv: "div",
		api.OpRem: "rem", api.OpLess: "less", api.OpEqual: "equal", api.OpNot: "not", api.OpLoad: "load", api.OpStore: "store", api.OpCheck: "check",
		api.OpJump: "jump", api.OpIf: "if", api.OpUnless: "unless", api.OpCount: "count", api.OpStep: "step", api.OpCall: "call",
	} {
		if s := code.Word(op); s != word {
			t.Errorf("Word(%d): %q, not %q", op, s, word)
		}
	}
}

// P9.2: the field A, whatever number stands there, or -1.
func TestWrites(t *testing.T) {
	for _, a := range numbers {
		for _, o := range operations {
			want := -1
			if o.writes == "A" {
				want = a
			}
			if n := code.Writes(api.Ins{Op: o.op, A: a, B: 5, C: 6, N: 8}); n != want {
				t.Errorf("Writes of %s with A %d: %d, not %d", o.word, a, n, want)
			}
		}
		for _, op := range noOperations {
			if n := code.Writes(api.Ins{Op: op, A: a, B: 5, C: 6, N: 8}); n != -1 {
				t.Errorf("Writes of %d with A %d: %d", op, a, n)
			}
		}
	}
}

// readOf is what the table says that an instruction reads, with so many parameters.
func readOf(x api.Ins, params int) []int {
	var all []int
	if x.Op < 0 || x.Op >= len(operations) {
		return all
	}
	o := operations[x.Op]
	if o.reads == "B*" {
		for ; params > 0 && len(all) < 8; params-- {
			all = append(all, x.B+len(all))
		}
		return all
	}
	for _, c := range o.reads {
		all = append(all, map[rune]int{'A': x.A, 'B': x.B, 'C': x.C}[c])
	}
	return all
}

// reads holds Reads to a list, when it is gone through again, and left behind each number of it.
func reads(t *testing.T, x api.Ins, params int, want []int) {
	t.Helper()
	seq := code.Reads(x, params)
	for range 2 {
		if l := slices.Collect(seq); !slices.Equal(l, want) {
			t.Errorf("Reads(%v, %d): %v, not %v", x, params, l, want)
		}
	}
	for stop := 1; stop <= len(want); stop++ {
		var told []int
		seq(func(r int) bool {
			told = append(told, r)
			return len(told) < stop
		})
		if !slices.Equal(told, want[:stop]) {
			t.Errorf("Reads(%v, %d), left behind %d: %v, not %v", x, params, stop, told, want[:stop])
		}
	}
	if l := slices.Collect(seq); !slices.Equal(l, want) {
		t.Errorf("Reads(%v, %d), gone through again when left: %v, not %v", x, params, l, want)
	}
}

// P9.3: each operation, with any numbers in its fields, the same one twice too; params count for a call alone.
func TestReads(t *testing.T) {
	for _, params := range []int{0, 1, 3, 8, 9, -1} {
		for op := -2; op < 23; op++ {
			for _, n := range numbers {
				for _, x := range []api.Ins{{Op: op, A: n, B: 31, C: 32, N: 33}, {Op: op, A: 30, B: n, C: 32, N: 33}, {Op: op, A: 30, B: 31, C: n, N: 33}, {Op: op, A: n, B: n, C: n, N: int64(n)}} {
					reads(t, x, params, readOf(x, params))
				}
			}
		}
		for _, op := range noOperations {
			reads(t, api.Ins{Op: op, A: 1, B: 2, C: 3, N: 4}, params, nil)
		}
	}
}

// P9.3: answers by hand.
func TestReadsByHand(t *testing.T) {
	for _, c := range []struct {
		x      api.Ins
		params int
		want   []int
	}{
		{api.Ins{Op: api.OpAdd, A: 1, B: 2, C: 2}, 0, []int{2, 2}},
		{api.Ins{Op: api.OpSub, A: 1, B: 3, C: 2}, 0, []int{3, 2}},
		{api.Ins{Op: api.OpMul, A: 4, B: 4, C: 4}, 0, []int{4, 4}},
		{api.Ins{Op: api.OpStore, A: 1, B: 3, N: 7}, 0, []int{1, 3}},
		{api.Ins{Op: api.OpStore, A: 3, B: 3}, 5, []int{3, 3}},
		{api.Ins{Op: api.OpCount, A: 9, B: 3, N: 7}, 0, []int{9, 3}},
		{api.Ins{Op: api.OpCount, A: 3, B: 3, N: 7}, 0, []int{3, 3}},
		{api.Ins{Op: api.OpLoad, A: 1, B: 3, N: 7}, 0, []int{3}},
		{api.Ins{Op: api.OpMove, A: 3, B: 3}, 0, []int{3}},
		{api.Ins{Op: api.OpNot, A: 1, B: -5, C: 9}, 0, []int{-5}},
		{api.Ins{Op: api.OpStep, A: 4, N: 2}, 3, []int{4}},
		{api.Ins{Op: api.OpRet, A: 4, B: 1}, 3, []int{4}},
		{api.Ins{Op: api.OpSet, A: 4, B: 1, C: 1, N: 1}, 3, nil},
		{api.Ins{Op: api.OpJump, A: 4, B: 1, C: 1, N: 1}, 3, nil},
		{api.Ins{Op: api.OpCall, A: 1, B: 3}, 2, []int{3, 4}},
		{api.Ins{Op: api.OpCall, A: 1, B: 3}, 1, []int{3}},
		{api.Ins{Op: api.OpCall, A: 1, B: 3}, 0, nil},
		{api.Ins{Op: api.OpCall, A: 1, B: 3}, -1, nil},
		{api.Ins{Op: api.OpCall, A: 1, B: 3}, least, nil},
		{api.Ins{Op: api.OpCall, A: 1, B: 3}, 7, []int{3, 4, 5, 6, 7, 8, 9}},
		{api.Ins{Op: api.OpCall, A: 1, B: 3}, 8, []int{3, 4, 5, 6, 7, 8, 9, 10}},
		{api.Ins{Op: api.OpCall, A: 1, B: 3}, 9, []int{3, 4, 5, 6, 7, 8, 9, 10}},
		{api.Ins{Op: api.OpCall, A: 1, B: 3}, 1 << 40, []int{3, 4, 5, 6, 7, 8, 9, 10}},
		{api.Ins{Op: api.OpCall, A: 1, B: 60}, most, []int{60, 61, 62, 63, 64, 65, 66, 67}},
		{api.Ins{Op: api.OpCall, A: 1, B: -2}, 4, []int{-2, -1, 0, 1}},
		{api.Ins{Op: api.OpCall, A: 1, B: most}, 1, []int{most}},
		{api.Ins{Op: api.OpCall, A: 1, B: most}, 3, []int{most, least, least + 1}},
		{api.Ins{Op: api.OpCall, A: 1, B: most - 3}, 99, []int{most - 3, most - 2, most - 1, most, least, least + 1, least + 2, least + 3}},
	} {
		reads(t, c.x, c.params, c.want)
	}
}

// P9.3: two who go through one row at the same time have nothing to do with one another.
func TestReadsWithin(t *testing.T) {
	seq := code.Reads(api.Ins{Op: api.OpCall, B: 5}, 3)
	var told []int
	for a := range seq {
		for b := range seq {
			if told = append(told, a, b); b == 6 {
				break
			}
		}
	}
	if want := []int{5, 5, 5, 6, 6, 5, 6, 6, 7, 5, 7, 6}; !slices.Equal(told, want) {
		t.Errorf("%v, not %v", told, want)
	}
}

// The table of this test says itself what the document's lists of words do.
func TestLists(t *testing.T) {
	words := func(has func(o operation) bool) string {
		var all []string
		for _, o := range operations {
			if has(o) {
				all = append(all, o.word)
			}
		}
		return strings.Join(all, " ")
	}
	for _, c := range []struct{ got, want string }{
		{words(func(o operation) bool { return o.writes == "A" }), "set move add sub mul div rem less equal not load step call"},
		{words(func(o operation) bool { return o.reads == "A" }), "ret check if unless step"},
		{words(func(o operation) bool { return o.reads == "B" }), "move not load"},
		{words(func(o operation) bool { return o.reads == "BC" }), "add sub mul div rem less equal"},
		{words(func(o operation) bool { return o.reads == "AB" }), "store count"},
		{words(func(o operation) bool { return o.reads == "B*" }), "call"},
		{words(func(o operation) bool { return strings.HasSuffix(o.fields, "N") }), "set load store check jump if unless count step call"},
	} {
		if c.got != c.want {
			t.Errorf("%s, not %s", c.got, c.want)
		}
	}
}
