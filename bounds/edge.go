package bounds

import (
	"math"

	"soffit/api"
	"soffit/span"
)

// registers are what a function's registers may hold, changed as an instruction is passed.
type registers []api.Span

// copied are the same in memory of their own.
func (r registers) copied() registers {
	own := make(registers, len(r))
	copy(own, r)
	return own
}

// pass changes the registers by an instruction, on the way to one to which it leads; false: that way is not gone. The module is one that may be.
func (r registers) pass(m api.Module, f api.Func, from, to int) bool {
	x := f.Code[from]
	switch x.Op {
	case api.OpIf, api.OpUnless, api.OpCount:
		// Where both ways are one it tells nothing.
		return x.N == int64(from)+1 || r.branch(x, x.N == int64(to))
	case api.OpDiv, api.OpRem:
		return r.divide(x)
	case api.OpLoad, api.OpStore:
		return r.access(x, f.Words)
	case api.OpCheck:
		return r.keep(x.A, api.Span{Lo: 0, Hi: x.N - 1})
	case api.OpCall:
		return r.call(x, m.Funcs[x.N].Params)
	}
	r.write(x)
	return true
}

// write does what never ends a run and goes one way.
func (r registers) write(x api.Ins) {
	switch x.Op {
	case api.OpSet:
		r[x.A] = api.Span{Lo: x.N, Hi: x.N}
	case api.OpMove:
		r[x.A] = r[x.B]
	case api.OpNot:
		r[x.A], _ = span.Do(api.OpNot, r[x.B], api.Span{})
	case api.OpStep:
		r[x.A], _ = span.Do(api.OpAdd, r[x.A], api.Span{Lo: 1, Hi: 1})
	case api.OpAdd, api.OpSub, api.OpMul, api.OpLess, api.OpEqual:
		r[x.A], _ = span.Do(x.Op, r[x.B], r[x.C])
	}
}

// divide leaves the divisor without 0. It may be the register that is written, so that goes last.
func (r registers) divide(x api.Ins) bool {
	told, ok := span.Do(x.Op, r[x.B], r[x.C])
	if !ok {
		return false
	}
	r.withoutZero(x.C)
	r[x.A] = told
	return true
}

// access leaves the index at words that there are.
func (r registers) access(x api.Ins, words int) bool {
	if !r.keep(x.B, places(x.N, words)) {
		return false
	}
	if x.Op == api.OpLoad {
		r[x.A] = span.All()
	}
	return true
}

// places are the numbers whose exact sum with n is the number of a word.
func places(n int64, words int) api.Span {
	if n == math.MinInt64 {
		// The first one would be 2^63, which is none.
		return api.Span{Lo: 1, Hi: 0}
	}
	ahead := -n - 1
	last := int64(math.MaxInt64)
	if ahead <= last-int64(words) {
		last = ahead + int64(words)
	}
	return api.Span{Lo: ahead + 1, Hi: last}
}

// call leaves each argument in the range that is declared for it.
func (r registers) call(x api.Ins, params []api.Span) bool {
	for i, declared := range params {
		if !r.keep(x.B+i, declared) {
			return false
		}
	}
	r[x.A] = span.All()
	return true
}

// branch leaves what is looked at as it must be for the way that is named, or for the other one.
func (r registers) branch(x api.Ins, named bool) bool {
	switch {
	case x.Op == api.OpCount:
		return r.count(x.A, x.B, named)
	case (x.Op == api.OpIf) == named:
		return r.withoutZero(x.A)
	}
	return r.keep(x.A, api.Span{Lo: 0, Hi: 0})
}

// count leaves a below b, or, on the way out, not below b.
func (r registers) count(a, b int, out bool) bool {
	switch {
	case a == b:
		return out
	case out:
		return r.keep(a, api.Span{Lo: r[b].Lo, Hi: math.MaxInt64})
	}
	left, _, ok := span.Below(r[a], r[b])
	r[a] = left
	return ok
}

// keep leaves what is in another span, too; false: nothing is.
func (r registers) keep(a int, in api.Span) bool {
	left, ok := span.Meet(r[a], in)
	r[a] = left
	return ok
}

// withoutZero takes 0 off the ends; false: nothing else is there.
func (r registers) withoutZero(a int) bool {
	s := r[a]
	if s.Lo == 0 && s.Hi == 0 {
		return false
	}
	if s.Lo == 0 {
		s.Lo = 1
	}
	if s.Hi == 0 {
		s.Hi = -1
	}
	r[a] = s
	return true
}
