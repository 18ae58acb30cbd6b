package code

import (
	"soffit/api"
	"soffit/scan"
)

func checkWhole(m api.Module) api.Fault {
	if len(m.Thresholds) > api.MaxThresholds {
		return api.Fault{E: api.ErrMany, At: api.MaxThresholds}
	}
	for i := 1; i < len(m.Thresholds); i++ {
		if m.Thresholds[i] <= m.Thresholds[i-1] {
			return api.Fault{E: api.ErrOrder, At: i}
		}
	}
	if len(m.Funcs) > api.MaxFuncs {
		return api.Fault{E: api.ErrMany, Func: api.MaxFuncs}
	}
	return api.Fault{}
}

// checkHead tells what is wrong first with the function of a number as a whole, and where.
func checkHead(m api.Module, number int) (api.Errno, int) {
	f := m.Funcs[number]
	switch {
	case !isName(f.Name):
		return api.ErrName, 0
	case Find(m, f.Name) < number:
		return api.ErrTwice, 0
	case len(f.Params) > api.MaxParams:
		return api.ErrMany, api.MaxParams
	}
	for i, p := range f.Params {
		if p.Lo > p.Hi {
			return api.ErrEmpty, i
		}
	}
	switch {
	case f.Regs < 1 || f.Regs > api.MaxRegs || f.Regs < len(f.Params):
		return api.ErrRegs, 0
	case f.Words < 0 || f.Words > api.MaxWords:
		return api.ErrWords, 0
	case len(f.Code) < 1 || len(f.Code) > api.MaxCode:
		return api.ErrCode, 0
	}
	return api.OK, 0
}

// isName tells whether a text may be a function's name in a module, where the words of the source's language are names like others.
func isName(s string) bool { return scan.Name(s) || scan.Word(s) }

// checkCode tells what is wrong first with the instructions of the function of a number, and with which of them.
func checkCode(m api.Module, number int) (api.Errno, int) {
	f := m.Funcs[number]
	for i, x := range f.Code {
		if e := checkIns(m, f, x); e != api.OK {
			return e, i
		}
	}
	last := len(f.Code) - 1
	switch f.Code[last].Op {
	case api.OpRet, api.OpJump, api.OpStep:
		return api.OK, 0
	}
	return api.ErrFall, last
}

// checkIns tells what is wrong first with an instruction of the function f.
func checkIns(m api.Module, f api.Func, x api.Ins) api.Errno {
	if !Known(x.Op) {
		return api.ErrOp
	}
	registers := rowOf(x.Op).registers
	for i, n := range fields(x) {
		has := registers&(1<<i) != 0
		switch {
		case !has && n != 0:
			return api.ErrUnused
		case has && (n < 0 || n >= f.Regs):
			return api.ErrReg
		}
	}
	return checkN(m, f, x)
}

// checkN tells what is wrong with the N of an instruction of the function f whose other fields are right.
func checkN(m api.Module, f api.Func, x api.Ins) api.Errno {
	switch rowOf(x.Op).n {
	case noNumber:
		if x.N != 0 {
			return api.ErrUnused
		}
	case sizeNumber:
		if x.N < 1 || x.N > api.MaxWords {
			return api.ErrRange
		}
	case targetNumber:
		if x.N < 0 || x.N >= int64(len(f.Code)) {
			return api.ErrJump
		}
	case calleeNumber:
		if x.N < 0 || x.N >= int64(len(m.Funcs)) || x.B+len(m.Funcs[x.N].Params) > f.Regs {
			return api.ErrCall
		}
	}
	return api.OK
}
