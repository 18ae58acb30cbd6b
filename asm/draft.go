package asm

import (
	"soffit/api"
	"soffit/code"
)

// draft is the module that has been read so far, of which nobody knows yet whether it may be. Of functions and of instructions it keeps one too many at most: there is no need of more to know that they are too many.
type draft struct {
	module api.Module
	heads  []int // the number of each function's first line
}

// add puts a whole line behind what has been read.
func (d *draft) add(r row) {
	switch r.kind {
	case widenRow:
		d.module.Thresholds = r.numbers
	case headRow:
		d.addHead(r)
	default:
		d.addInstruction(r)
	}
}

func (d *draft) addHead(r row) {
	if len(d.heads) > api.MaxFuncs {
		return
	}
	f := api.Func{Name: r.name, Regs: int(r.numbers[0]), Words: int(r.numbers[1])}
	for i := 2; i < len(r.numbers); i += 2 {
		f.Params = append(f.Params, api.Span{Lo: r.numbers[i], Hi: r.numbers[i+1]})
	}
	d.module.Funcs = append(d.module.Funcs, f)
	d.heads = append(d.heads, r.number)
}

func (d *draft) addInstruction(r row) {
	f := &d.module.Funcs[len(d.module.Funcs)-1]
	if len(f.Code) <= api.MaxCode {
		f.Code = append(f.Code, instruction(r.kind, r.numbers))
	}
}

// check tells what is wrong first with the module, and on which line that stands.
func (d *draft) check() (api.Errno, int) {
	fault := code.May(d.module)
	if fault.E == api.OK {
		return api.OK, 0
	}
	return fault.E, d.line(fault)
}

func (d *draft) line(fault api.Fault) int {
	// ErrMany stands for thresholds, too, which are asked for first.
	if fault.E == api.ErrOrder || len(d.module.Thresholds) > api.MaxThresholds {
		return 1
	}
	head := d.heads[fault.Func]
	switch fault.E {
	case api.ErrMany, api.ErrName, api.ErrTwice, api.ErrEmpty, api.ErrRegs, api.ErrWords, api.ErrCode:
		return head
	}
	return head + 1 + fault.At
}
