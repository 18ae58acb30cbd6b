package loops_test

import (
	"math/rand/v2"
	"slices"
	"testing"

	"soffit/api"
	"soffit/loops"
)

// maker makes functions at random.
type maker struct{ *rand.Rand }

func newMaker(seed uint64) maker { return maker{rand.New(rand.NewPCG(14, seed))} }

// target is an instruction's number most of the time, one nearby more often; seldom one beside the code.
func (k maker) target(at, length int) int64 {
	switch k.IntN(16) {
	case 0:
		return []int64{-1, int64(length), int64(length) + 1, least, most, 1 << 32, 1<<32 + int64(at)}[k.IntN(7)]
	case 1, 2, 3, 4:
		return int64(at + k.IntN(9) - 4)
	case 5, 6:
		return int64(k.IntN(at + 1))
	}
	return int64(k.IntN(length))
}

// instruction is any one, of few registers, one that counts, steps or branches more often than it would.
func (k maker) instruction(at, length int) api.Ins {
	x := api.Ins{Op: k.IntN(20), A: k.IntN(4), B: k.IntN(4), C: k.IntN(4), N: k.target(at, length)}
	switch k.IntN(10) {
	case 0, 1:
		x.Op = api.OpStep
	case 2, 3:
		x.Op = api.OpCount
	case 4:
		x.Op = []int{api.OpIf, api.OpUnless, api.OpJump, api.OpSet}[k.IntN(4)]
	case 5:
		if k.IntN(length+4) < 2 {
			x.Op = []int{api.OpRet, -1, 20, most, least, 1<<32 + 14}[k.IntN(6)]
		}
	}
	if k.IntN(12) == 0 {
		x.A, x.B = k.IntN(4)-2, k.IntN(4)-2
	}
	return x
}

// function is one of few instructions most of the time, whatever they are.
func (k maker) function() api.Func {
	length := 1 + k.IntN([]int{3, 6, 12, 12, 40}[k.IntN(5)])
	var f api.Func
	for at := range length {
		f.Code = append(f.Code, k.instruction(at, length))
	}
	return f
}

// writer puts together a function whose loops count.
type writer struct {
	maker
	code []api.Ins
	open []open
	room int
}

// open is a loop that is being written: its head, its register, and the places at which it is left.
type open struct {
	head, a int
	leaves  []int
}

func (w *writer) put(x api.Ins) int {
	w.code = append(w.code, x)
	return len(w.code) - 1
}

// here makes an instruction lead to the next one that is put.
func (w *writer) here(at int) { w.code[at].N = int64(len(w.code)) }

func (w *writer) body(deep int) {
	for range 1 + w.IntN(3) {
		if len(w.code) > w.room {
			return
		}
		w.statement(deep)
	}
}

// statement is a loop, a branch, a way out of a loop or back to its head, or an instruction that writes what no loop counts by.
func (w *writer) statement(deep int) {
	switch n := w.IntN(10); {
	case n < 4 && deep > 0:
		w.loop(deep - 1)
	case n < 6 && deep > 0:
		at := w.put(unless(0))
		w.body(deep - 1)
		if w.IntN(2) == 0 {
			end := w.put(jump(0))
			w.here(at)
			w.body(deep - 1)
			at = end
		}
		w.here(at)
	case n < 7 && len(w.open) > 0:
		i := w.IntN(len(w.open))
		w.open[i].leaves = append(w.open[i].leaves, w.put(when(0)))
	case n < 8 && len(w.open) > 0:
		l := w.open[w.IntN(len(w.open))]
		at := w.put(when(0))
		w.put(step(l.a, int64(l.head)))
		w.here(at)
	case n == 8 && w.IntN(3) == 0:
		at := w.put(when(0))
		w.put(ret)
		w.here(at)
	default:
		w.put(api.Ins{Op: w.IntN(13) + 1, A: 100 + w.IntN(3), B: w.IntN(4), C: w.IntN(4)})
	}
}

func (w *writer) loop(deep int) {
	// The registers of loops within one another are apart; those of loops side by side need not be.
	l := open{a: 10 + len(w.open)}
	w.put(set(l.a))
	bound := []int{0, 1, 2, 3, -1}[w.IntN(5)]
	if len(w.open) > 0 && w.IntN(2) == 0 {
		bound = w.open[w.IntN(len(w.open))].a
	}
	l.head = w.put(count(l.a, bound, 0))
	w.open = append(w.open, l)
	w.body(deep)
	w.put(step(l.a, int64(l.head)))
	last := len(w.open) - 1
	for _, at := range append(w.open[last].leaves, l.head) {
		w.here(at)
	}
	w.open = w.open[:last]
}

// counting is a function whose loops count, of about so many instructions at most.
func (k maker) counting(room int) api.Func {
	w := &writer{maker: k, room: room}
	for len(w.code) == 0 || len(w.code) < room && k.IntN(3) > 0 {
		w.body(1 + k.IntN(4))
	}
	w.put(ret)
	return of(w.code...)
}

// mixed is the same function, with its instructions but the first one in any order, a jump behind each of them.
func (k maker) mixed(f api.Func) api.Func {
	places := k.Perm(len(f.Code))
	first := slices.Index(places, 0)
	places[0], places[first] = places[first], places[0]
	out := make([]api.Ins, 2*len(f.Code))
	move := func(n int64) int64 {
		if n < 0 || n >= int64(len(places)) {
			return n
		}
		return int64(2 * places[n])
	}
	for at, x := range f.Code {
		if slices.Contains([]int{api.OpJump, api.OpStep, api.OpIf, api.OpUnless, api.OpCount}, x.Op) {
			x.N = move(x.N)
		}
		next := ret
		if at+1 < len(f.Code) {
			next = jump(move(int64(at + 1)))
		}
		out[2*places[at]], out[2*places[at]+1] = x, next
	}
	return of(out...)
}

// spoiled is a function of which one instruction is another one.
func (k maker) spoiled(f api.Func) api.Func {
	at := k.IntN(len(f.Code))
	x := f.Code[at]
	near := slices.IndexFunc(f.Code[at:], func(x api.Ins) bool { return x.Op == api.OpStep })
	switch k.IntN(8) {
	case 0:
		x = k.instruction(at, len(f.Code))
	case 1:
		x.N = k.target(at, len(f.Code))
	case 2:
		x.A = 10 + k.IntN(3)
	case 3:
		x.Op = k.IntN(20)
	case 4, 5:
		x = set(10 + k.IntN(3))
	case 6:
		x = set(k.IntN(3))
	case 7:
		if near >= 0 {
			at += near
			x = f.Code[at]
			x.Op = []int{api.OpJump, api.OpIf, api.OpCount}[k.IntN(3)]
		}
	}
	return with(f, at, x)
}

// P14.1, P14.3: any functions at random, against the words' own meanings and what follows.
func TestRandom(t *testing.T) {
	k := newMaker(2)
	tally := map[api.Errno]int{}
	for range 30000 {
		f := k.function()
		_, e := against(t, f)
		tally[e]++
		follows(t, f)
	}
	for _, e := range []api.Errno{api.OK, api.ErrReduce, api.ErrHead, api.ErrBack, api.ErrDrive} {
		if tally[e] < 50 {
			t.Errorf("the test's own functions: %d of the error %d", tally[e], e)
		}
	}
}

// P14.1, P14.3: functions whose loops count, at random, with their instructions in a row and in any order.
func TestRandomCounting(t *testing.T) {
	k := newMaker(3)
	var none, many, deep, twice int
	for i := range 3000 {
		f := k.counting(4 + k.IntN(50))
		if i%2 == 0 {
			f = k.mixed(f)
		}
		l, e := against(t, f)
		if e != api.OK {
			t.Fatalf("the test's own function %s: %d", short(f.Code), e)
		}
		follows(t, f)
		if len(l) == 0 {
			none++
		}
		if len(l) > 3 {
			many++
		}
		for _, x := range l {
			if loops.Depth(l, x.Head) > 2 {
				deep++
			}
			if len(x.Backs) > 1 {
				twice++
			}
		}
	}
	if none < 50 || many < 50 || deep < 50 || twice < 50 {
		t.Errorf("the test's own functions: %d without loops, %d with many, %d deep ones, %d with more ways back", none, many, deep, twice)
	}
}

// P14.1, P14.3: the same with an instruction or two that are others.
func TestRandomSpoiled(t *testing.T) {
	k := newMaker(4)
	tally := map[api.Errno]int{}
	for i := range 12000 {
		f := k.spoiled(k.counting(4 + k.IntN(30)))
		if i%3 == 0 {
			f = k.spoiled(f)
		}
		if i%2 == 0 {
			f = k.mixed(f)
		}
		_, e := against(t, f)
		tally[e]++
		follows(t, f)
	}
	for _, e := range []api.Errno{api.OK, api.ErrReduce, api.ErrHead, api.ErrBack, api.ErrDrive, api.ErrExit} {
		if tally[e] < 50 {
			t.Errorf("the test's own functions: %d of the error %d", tally[e], e)
		}
	}
}

// P14.1, P14.3: long functions at random.
func TestRandomLong(t *testing.T) {
	k := newMaker(5)
	for range 12 {
		f := k.counting(400)
		against(t, f)
		follows(t, f)
		against(t, k.mixed(f))
		follows(t, k.mixed(f))
		against(t, k.spoiled(f))
	}
}

// every goes through all codes of some instructions of a list.
func every(list []api.Ins, code []api.Ins, at int, do func(f api.Func)) {
	if at == len(code) {
		do(api.Func{Code: code})
		return
	}
	for _, x := range list {
		code[at] = x
		every(list, code, at+1, do)
	}
}

// P14.1, P14.3: all short codes of instructions that lead on in each way, to each place, and write each register of a count.
func TestEveryShort(t *testing.T) {
	for length := range 5 {
		list := []api.Ins{ret, set(0), set(1)}
		for n := range int64(length) {
			list = append(list, jump(n), when(n), count(0, 1, n), step(0, n))
		}
		if length < 4 {
			list = append(list, set(2), count(0, 0, 0), count(-1, 1, 2), count(1, 0, most), step(-1, 0), step(1, 0), step(1, 1), api.Ins{Op: 20, N: 1}, jump(-1), when(-1), jump(int64(length)), step(0, int64(length)), count(0, 1, int64(length)))
		}
		every(list, make([]api.Ins, length), 0, func(f api.Func) {
			against(t, f)
			follows(t, f)
		})
	}
}

// P14.1, P14.3: all codes of five instructions that count, step and branch.
func TestEveryFive(t *testing.T) {
	var list []api.Ins
	for n := range int64(5) {
		list = append(list, count(0, 1, n), step(0, n))
	}
	list = append(list, when(1), when(4), count(2, 3, 4), step(2, 1))
	every(list, make([]api.Ins, 5), 0, func(f api.Func) {
		against(t, f)
	})
}

// P14.1, P14.3: the functions of other tests.
func TestFollows(t *testing.T) {
	for _, c := range shapes() {
		against(t, c.f)
		follows(t, c.f)
	}
	for _, n := range []int{1, 2, 5, 40} {
		f, _ := nest(n)
		against(t, f)
		follows(t, f)
	}
	follows(t, backwards(1024))
}

// read makes a function of bytes: three of them an instruction.
func read(b []byte) api.Func {
	var f api.Func
	for ; len(b) >= 3 && len(f.Code) < 200; b = b[3:] {
		f.Code = append(f.Code, api.Ins{Op: int(b[0])%24 - 2, A: int(b[1]>>4) - 2, B: int(b[1]&15) - 2, N: int64(int8(b[2]))})
	}
	return f
}

func FuzzAgainstModel(f *testing.F) {
	f.Add([]byte{})
	f.Add([]byte{19, 0x23, 4, 17, 0x42, 3, 5, 0x52, 0, 20, 0x22, 0, 2, 0x52, 0})
	f.Add([]byte{17, 0x22, 2, 16, 0x22, 2, 16, 0x22, 1})
	f.Add([]byte{19, 0x23, 5, 19, 0x45, 4, 15, 0x22, 1, 20, 0x42, 1, 20, 0x22, 0, 2, 0x22, 0})
	f.Fuzz(func(t *testing.T, b []byte) {
		against(t, read(b))
		follows(t, read(b))
	})
}
