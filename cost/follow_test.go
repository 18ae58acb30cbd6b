package cost_test

import (
	"testing"

	"soffit/api"
	"soffit/loops"
)

// frame is a call that has not ended: its registers, its words, and what stood when it began.
type frame struct {
	fn            int
	r, w          []int64
	steps, frames int64
	words         int64
}

// run is a run by hand, as the code's table says what instructions do.
type run struct {
	t      *testing.T
	m      api.Module
	l      []api.Ceiling
	frames []*frame
	// steps are those so far; left is how many instructions there may be till it is given up.
	steps, left int64
	// most are the greatest numbers of frames and words so far.
	most api.Ceiling
	y    *tally
}

// weight is an operation's, as the table says it.
func weight(op int) int64 {
	switch op {
	case api.OpMul:
		return 3
	case api.OpDiv, api.OpRem:
		return 8
	case api.OpLoad, api.OpStore:
		return 2
	case api.OpCall:
		return 4
	}
	return 1
}

// words are those in use.
func (k *run) words() int64 {
	n := int64(0)
	for _, f := range k.frames {
		n += int64(len(f.r) + len(f.w))
	}
	return n
}

// hold holds each call that has not ended to its function's ceiling, at this moment.
func (k *run) hold() {
	k.t.Helper()
	words := k.words()
	k.most.Frames, k.most.Words = max(k.most.Frames, int64(len(k.frames))), max(k.most.Words, words)
	for _, f := range k.frames {
		c := k.l[f.fn]
		if k.steps-f.steps > c.Steps || int64(len(k.frames))-f.frames > c.Frames || words-f.words > c.Words {
			k.t.Fatalf("%s: a call of function %d: %d steps, %d frames, %d words by now, above %v", short(k.m), f.fn, k.steps-f.steps, int64(len(k.frames))-f.frames, words-f.words, c)
		}
	}
}

// call runs a function; false: the run is over.
func (k *run) call(fn int, args []int64) (int64, bool) {
	k.t.Helper()
	g := k.m.Funcs[fn]
	f := &frame{fn: fn, r: make([]int64, g.Regs), w: make([]int64, g.Words), steps: k.steps, frames: int64(len(k.frames)), words: k.words()}
	copy(f.r, args)
	k.frames = append(k.frames, f)
	k.hold()
	for at := 0; ; {
		x := g.Code[at]
		if k.left--; k.left < 0 {
			return 0, false
		}
		k.steps += weight(x.Op)
		k.hold()
		if x.Op == api.OpRet {
			k.frames = k.frames[:len(k.frames)-1]
			if k.steps-f.steps == k.l[fn].Steps {
				k.y.full++
			}
			return f.r[x.A], true
		}
		next, ok := k.after(f, at, x)
		if !ok {
			return 0, false
		}
		at = next
	}
}

// after does one instruction that is no ret, and tells which one follows; false: the run is over.
func (k *run) after(f *frame, at int, x api.Ins) (int, bool) {
	k.t.Helper()
	r, target := f.r, int(x.N)
	switch x.Op {
	case api.OpJump:
		return target, true
	case api.OpIf:
		if r[x.A] != 0 {
			return target, true
		}
	case api.OpUnless:
		if r[x.A] == 0 {
			return target, true
		}
	case api.OpCount:
		if r[x.A] >= r[x.B] {
			return target, true
		}
	case api.OpStep:
		r[x.A]++
		return target, true
	case api.OpCheck:
		return at + 1, 0 <= r[x.A] && r[x.A] < x.N
	case api.OpLoad, api.OpStore:
		return at + 1, word(f, x)
	case api.OpCall:
		args := r[x.B : x.B+len(k.m.Funcs[x.N].Params)]
		for i, p := range k.m.Funcs[x.N].Params {
			if args[i] < p.Lo || args[i] > p.Hi {
				return 0, false
			}
		}
		v, ok := k.call(int(x.N), args)
		r[x.A] = v
		k.y.calls++
		return at + 1, ok
	default:
		return at + 1, reckoned(r, x)
	}
	return at + 1, true
}

// word does a load or a store; false: there is no such word.
func word(f *frame, x api.Ins) bool {
	at := f.r[x.B] + x.N
	exact := (f.r[x.B] < 0) != (x.N < 0) || (at < 0) == (x.N < 0)
	if !exact || at < 0 || at >= int64(len(f.w)) {
		return false
	}
	if x.Op == api.OpLoad {
		f.r[x.A] = f.w[at]
	} else {
		f.w[at] = f.r[x.A]
	}
	return true
}

// reckoned does what makes a number of others; false: there is none.
func reckoned(r []int64, x api.Ins) bool {
	truth := func(yes bool) int64 {
		if yes {
			return 1
		}
		return 0
	}
	b, c := r[x.B], r[x.C]
	if (x.Op == api.OpDiv || x.Op == api.OpRem) && c == 0 {
		return false
	}
	switch x.Op {
	case api.OpSet:
		r[x.A] = x.N
	case api.OpMove:
		r[x.A] = b
	case api.OpAdd:
		r[x.A] = b + c
	case api.OpSub:
		r[x.A] = b - c
	case api.OpMul:
		r[x.A] = b * c
	case api.OpDiv:
		r[x.A] = b / c
	case api.OpRem:
		r[x.A] = b % c
	case api.OpLess:
		r[x.A] = truth(b < c)
	case api.OpEqual:
		r[x.A] = truth(b == c)
	case api.OpNot:
		r[x.A] = truth(b == 0)
	}
	return true
}

// tally is what a test's own modules and their runs had.
type tally struct {
	modules, accepted, faulty, late, round, ceiling int
	loops, nested, called                           int
	runs, ended, full, calls, met                   int
}

// saw counts a module.
func (y *tally) saw(m api.Module, l []api.Ceiling, fault api.Fault) {
	y.modules++
	switch {
	case fault.E == api.OK:
		y.accepted++
	case fault.E == api.ErrCeiling:
		y.ceiling++
	case fault.E == api.ErrCycle:
		y.round++
	default:
		y.faulty++
	}
	if fault.Func > 0 {
		y.late++
	}
	for fn := range l {
		if l[fn].Frames > 1 {
			y.called++
		}
		found, _, _ := loops.Find(m.Funcs[fn])
		y.loops += len(found)
		for _, one := range found {
			if one.Parent >= 0 {
				y.nested++
			}
		}
	}
}

// follow runs a function a few times with numbers at random, and holds each moment to the ceilings (P18.2).
func (y *tally) follow(t *testing.T, k maker, m api.Module, l []api.Ceiling, fn, times int) {
	t.Helper()
	for range times {
		var args []int64
		for _, p := range m.Funcs[fn].Params {
			args = append(args, k.in(p))
		}
		one := &run{t: t, m: m, l: l, left: 400, y: y}
		y.runs++
		if _, ok := one.call(fn, args); ok {
			y.ended++
			if one.steps == l[fn].Steps && one.most.Frames == l[fn].Frames && one.most.Words == l[fn].Words {
				y.met++
			}
		}
	}
}

// P18.2: functions by hand whose runs meet their ceilings.
func TestMet(t *testing.T) {
	k := newMaker(20)
	for _, c := range []struct {
		what string
		m    api.Module
		met  int
	}{
		{"straight on", text("func f 2 3", "set 1 5", "mul 1 1 1", "store 1 0 0", "load 0 0 1", "div 0 0 1", "ret 0"), 1},
		{"a loop", text("func f 3 0", "set 1 10", "count 0 1 4", "mul 2 2 2", "step 0 1", "ret 0"), 1},
		{"a parameter", text("func f 2 0 9 9", "count 1 0 2", "step 1 0", "ret 1"), 1},
		{"two loops within one another", text("func f 5 0", "set 1 2", "set 3 3", "count 0 1 8", "set 2 0", "count 2 3 7", "mul 4 4 4", "step 2 4", "step 0 2", "ret 0"), 1},
		{"one behind the other", text("func f 2 0 9 9", "count 1 0 2", "step 1 0", "set 1 4", "count 1 0 5", "step 1 3", "ret 1"), 1},
		{"a call", text("func f 1 0", "call 0 0 1", "ret 0", "func g 2 3", "set 0 1", "ret 0"), 1},
		{"a row of calls in a loop", text("func f 3 0", "set 1 3", "count 0 1 4", "call 2 2 1", "step 0 1", "ret 0", "func g 2 3", "call 0 0 2", "ret 0", "func h 4 4", "mul 0 0 0", "ret 0"), 1},
		{"no rounds", text("func f 2 0 -9 0", "count 1 0 2", "step 1 0", "ret 1"), 1},
		{"the light way", text("func f 2 0 0 0", "if 0 3", "set 1 1", "ret 0", "div 1 1 1", "ret 1"), 0},
		{"left ahead of its end", text("func f 2 0 9 9", "count 1 0 3", "if 1 3", "step 1 0", "ret 1"), 0},
		{"a call on the other way", text("func f 2 0 1 1", "if 0 2", "call 1 1 1", "ret 0", "func g 1 0", "ret 0"), 0},
		{"a trap", text("func f 2 0", "div 0 0 0", "ret 0"), 0},
	} {
		var y tally
		l, _ := against(t, c.m)
		y.follow(t, k, c.m, l, 0, 1)
		if y.met != c.met {
			t.Errorf("%s: %+v", c.what, y)
		}
	}
}

// P18.2: Frames and Words are met where the greatest ones are called, not all of those that are.
func TestMetByOne(t *testing.T) {
	m := text("func f 1 2", "call 0 0 1", "call 0 0 2", "call 0 0 3", "ret 0", "func g 1 100", "ret 0", "func h 1 0", "call 0 0 3", "ret 0", "func i 3 50", "ret 0")
	var y tally
	l, _ := against(t, m)
	y.follow(t, newMaker(21), m, l, 0, 1)
	if y.met != 1 || l[0] != c(3*4+1+6+1+1, 3, 104) {
		t.Errorf("%+v, %v", y, l[0])
	}
}
