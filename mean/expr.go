package mean

import "soffit/api"

// expr works an expression out, in the call that its function is in.
func (r *run) expr(f *fn, x *expr) int64 {
	switch x.kind {
	case api.ExprNumber:
		return x.n
	case api.ExprName:
		return f.vars[x.place.at]
	case api.ExprIndex:
		return f.load(x.place.word(r.expr(f, &x.args[0])))
	case api.ExprCall:
		return r.calling(f, x)
	case api.ExprAnd, api.ExprOr, api.ExprChoose:
		return r.choice(f, x)
	}
	first := r.expr(f, &x.args[0])
	if len(x.args) == 1 {
		return one(x.kind, first)
	}
	return two(x.kind, first, r.expr(f, &x.args[1]))
}

// word is the place of an array's word.
func (p place) word(index int64) int {
	if index < 0 || index >= p.size {
		panic(stop(api.TrapIndex))
	}
	return p.at + int(index)
}

// load reads a word, which is 0 unless this call wrote it.
func (f *fn) load(at int) int64 {
	if f.words[at].born != f.born {
		return 0
	}
	return f.words[at].value
}

// calling works out a call. Its arguments have room of their own, since one of them may call the same function.
func (r *run) calling(f *fn, x *expr) int64 {
	var room [api.MaxParams]int64
	args := room[:len(x.args)]
	for i := range x.args {
		args[i] = r.expr(f, &x.args[i])
	}
	called := &r.funcs[x.fn]
	if !inside(args, called.params) {
		panic(stop(api.TrapArg))
	}
	return r.call(called, args)
}

// choice works out what need not work out all of its arguments.
func (r *run) choice(f *fn, x *expr) int64 {
	first := r.expr(f, &x.args[0]) != 0
	switch {
	case x.kind == api.ExprAnd && !first:
		return 0
	case x.kind == api.ExprOr && first:
		return 1
	case x.kind == api.ExprChoose && !first:
		return r.expr(f, &x.args[2])
	case x.kind == api.ExprChoose:
		return r.expr(f, &x.args[1])
	}
	return truth(r.expr(f, &x.args[1]) != 0)
}

func truth(is bool) int64 {
	if is {
		return 1
	}
	return 0
}

func one(kind int, x int64) int64 {
	if kind == api.ExprNeg {
		return -x
	}
	return truth(x == 0)
}

func two(kind int, x, y int64) int64 {
	switch kind {
	case api.ExprAdd:
		return x + y
	case api.ExprSub:
		return x - y
	case api.ExprMul:
		return x * y
	case api.ExprDiv, api.ExprRem:
		return divide(kind, x, y)
	case api.ExprEq:
		return truth(x == y)
	case api.ExprNe:
		return truth(x != y)
	case api.ExprLt:
		return truth(x < y)
	case api.ExprLe:
		return truth(x <= y)
	case api.ExprGt:
		return truth(x > y)
	}
	return truth(x >= y)
}

// divide is x / y, or the rest of that. (The least number by -1 is brought round by Go as the document has it.)
func divide(kind int, x, y int64) int64 {
	if y == 0 {
		panic(stop(api.TrapDivide))
	}
	if kind == api.ExprDiv {
		return x / y
	}
	return x % y
}
