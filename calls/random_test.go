package calls_test

import (
	"math/rand/v2"
	"slices"
	"testing"

	"soffit/api"
)

// maker makes modules at random.
type maker struct{ *rand.Rand }

func newMaker(seed uint64) maker { return maker{rand.New(rand.NewPCG(15, seed))} }

// number is a function's most of the time; seldom one that is none's.
func (k maker) number(funcs int) int64 {
	if k.IntN(12) == 0 {
		return k.none(funcs)
	}
	return int64(k.IntN(funcs))
}

func (k maker) none(funcs int) int64 {
	return []int64{-1, int64(funcs), int64(funcs) + 1, least, most, 1 << 32, 1<<32 + 1}[k.IntN(7)]
}

// instruction is any one, a call or one that branches more often than it would.
func (k maker) instruction(at, length, funcs int) api.Ins {
	x := api.Ins{Op: k.IntN(20), A: k.IntN(5) - 1, B: k.IntN(5) - 1, C: k.IntN(5) - 1, N: int64(k.IntN(length+2) - 1)}
	switch k.IntN(12) {
	case 0, 1, 2, 3:
		x.Op = api.OpCall
	case 4:
		x.Op = api.OpSet
	case 5, 6:
		x.Op = []int{api.OpIf, api.OpUnless, api.OpCount}[k.IntN(3)]
	case 7:
		if k.IntN(6) == 0 {
			x.Op = []int{-1, 20, most, least, 1<<32 + 19}[k.IntN(5)]
		}
	case 8:
		x.N = int64(at + k.IntN(5))
	}
	if x.Op == api.OpCall {
		x.N = k.number(funcs)
	}
	return x
}

// function is one of few instructions most of the time, whatever they are.
func (k maker) function(funcs int) api.Func {
	length := k.IntN([]int{2, 4, 8, 8, 30}[k.IntN(5)])
	var f api.Func
	for at := range length {
		f.Code = append(f.Code, k.instruction(at, length, funcs))
	}
	return f
}

// module is one of few functions most of the time, whatever they are; seldom of too many.
func (k maker) module() api.Module {
	funcs := k.IntN([]int{3, 5, 5, 8, 33, 36}[k.IntN(6)])
	var m api.Module
	for range funcs {
		m.Funcs = append(m.Funcs, k.function(funcs))
	}
	return m
}

// falling is a module without a ring: each function calls such alone as stand ahead of it in an order at random, or can't come to its calls.
func (k maker) falling(funcs int) api.Module {
	m := api.Module{Funcs: make([]api.Func, funcs)}
	order := k.Perm(funcs)
	for place, fn := range order {
		for at := range k.IntN(5) {
			x := pass
			switch n := k.IntN(8); {
			case n < 4 && place > 0:
				x = call(int64(order[k.IntN(place)]))
			case n == 4:
				x = call(k.none(funcs))
			case n == 5:
				x = when(int64(k.IntN(at + 1)))
			}
			m.Funcs[fn].Code = append(m.Funcs[fn].Code, x)
		}
		m.Funcs[fn].Code = append(m.Funcs[fn].Code, ret)
		if k.IntN(3) == 0 {
			m.Funcs[fn].Code = append(m.Funcs[fn].Code, call(k.number(funcs)), ret)
		}
	}
	return m
}

// closed is the same module with a call more, which may close a ring.
func (k maker) closed(m api.Module) api.Module {
	m.Funcs = slices.Clone(m.Funcs)
	f := &m.Funcs[k.IntN(len(m.Funcs))]
	f.Code = slices.Insert(slices.Clone(f.Code), k.IntN(len(f.Code)+1), call(k.number(len(m.Funcs))))
	return m
}

// P15.1 to P15.3: any modules at random.
func TestRandom(t *testing.T) {
	k := newMaker(1)
	tally := map[api.Errno]int{}
	for range 20000 {
		tally[both(t, k.module())]++
	}
	if tally[api.OK] < 500 || tally[api.ErrCycle] < 500 || tally[api.ErrMany] < 50 {
		t.Errorf("the test's own modules: %v", tally)
	}
}

// P15.1 to P15.3: modules without a ring at random, and the same with calls that may close one.
func TestRandomFalling(t *testing.T) {
	k := newMaker(2)
	tally := map[api.Errno]int{}
	for i := range 6000 {
		m := k.falling(1 + k.IntN([]int{4, 10, 32}[i%3]))
		if e := both(t, m); e != api.OK {
			t.Fatalf("the test's own module %s: %d", codes(m), e)
		}
		for range 1 + k.IntN(3) {
			m = k.closed(m)
			tally[both(t, m)]++
		}
	}
	if tally[api.OK] < 500 || tally[api.ErrCycle] < 500 || tally[api.ErrMany] > 0 {
		t.Errorf("the test's own modules: %v", tally)
	}
}

// P15.1 to P15.3: functions of much code, of just as much as may be, and of more.
func TestRandomLong(t *testing.T) {
	k := newMaker(3)
	for range 12 {
		m := k.falling(2 + k.IntN(4))
		for fn := range m.Funcs {
			length := []int{300, 1023, 1024, 1025}[k.IntN(4)]
			f := &m.Funcs[fn]
			f.Code = slices.Concat(times(length-len(f.Code), pass), f.Code)
			// Whatever stands in front now, its targets are no longer what they were.
			f.Code[k.IntN(len(f.Code))] = when(int64(k.IntN(length)))
		}
		both(t, m)
		both(t, k.closed(m))
	}
}

// P15.1 to P15.3: the modules of other tests.
func TestFollows(t *testing.T) {
	for _, m := range many(4) {
		both(t, m)
	}
}

// read makes a module of bytes: two of them an instruction, one alone of 255 the end of a function.
func read(b []byte) api.Module {
	var m api.Module
	var f api.Func
	for len(b) >= 2 && len(m.Funcs) < 40 && len(f.Code) < 200 {
		if b[0] == 255 {
			m.Funcs = append(m.Funcs, f)
			f = api.Func{}
			b = b[1:]
			continue
		}
		f.Code = append(f.Code, api.Ins{Op: int(b[0])%24 - 2, N: int64(int8(b[1]))})
		b = b[2:]
	}
	m.Funcs = append(m.Funcs, f)
	return m
}

func FuzzAgainstModel(f *testing.F) {
	f.Add([]byte{})
	f.Add([]byte{21, 2, 21, 1, 2, 0, 255, 21, 2, 2, 0, 255, 2, 0, 255, 2, 0, 21, 0, 2, 0})
	f.Add([]byte{21, 1, 2, 0, 255, 21, 0, 2, 0})
	f.Add([]byte{16, 2, 21, 0, 21, 1, 255, 2, 0})
	f.Fuzz(func(t *testing.T, b []byte) { both(t, read(b)) })
}
