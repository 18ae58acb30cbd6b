package asm

import "soffit/api"

// fields are those that each operation has, a letter each, in the order in which they are written.
var fields = [...]string{
	api.OpRet:    "A",
	api.OpSet:    "AN",
	api.OpMove:   "AB",
	api.OpAdd:    "ABC",
	api.OpSub:    "ABC",
	api.OpMul:    "ABC",
	api.OpDiv:    "ABC",
	api.OpRem:    "ABC",
	api.OpLess:   "ABC",
	api.OpEqual:  "ABC",
	api.OpNot:    "AB",
	api.OpLoad:   "ABN",
	api.OpStore:  "ABN",
	api.OpCheck:  "AN",
	api.OpJump:   "N",
	api.OpIf:     "AN",
	api.OpUnless: "AN",
	api.OpCount:  "ABN",
	api.OpStep:   "AN",
	api.OpCall:   "ABN",
}

// numbersOf tells the numbers in an instruction's fields, as they are written.
func numbersOf(x api.Ins) []int64 {
	var all []int64
	for _, letter := range fields[x.Op] {
		switch letter {
		case 'A':
			all = append(all, int64(x.A))
		case 'B':
			all = append(all, int64(x.B))
		case 'C':
			all = append(all, int64(x.C))
		case 'N':
			all = append(all, x.N)
		}
	}
	return all
}

// instruction tells the one of an operation with these numbers in its fields, of which there are just as many.
func instruction(op int, numbers []int64) api.Ins {
	x := api.Ins{Op: op}
	for i, letter := range fields[op] {
		switch letter {
		case 'A':
			x.A = int(numbers[i])
		case 'B':
			x.B = int(numbers[i])
		case 'C':
			x.C = int(numbers[i])
		case 'N':
			x.N = numbers[i]
		}
	}
	return x
}
