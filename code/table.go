package code

import "soffit/api"

// The fields that may be registers, a bit each, the first one's lowest.
const (
	fieldA = 1 << iota
	fieldB
	fieldC
)

// What N may be of an operation.
const (
	noNumber = iota // it has no N
	anyNumber
	sizeNumber   // how many numbers from 0 on are let pass
	targetNumber // an instruction's
	calleeNumber // a function's
)

// row is what is said of an operation: its word and weight, which fields are its registers, which of these it reads, whether it writes A, and what its N is.
type row struct {
	word      string
	weight    int64
	registers int
	reads     int
	writes    bool
	n         int
}

// table is the code's. (A call reads its arguments, of which no field tells how many they are.)
var table = [...]row{
	api.OpRet:    {"ret", 1, fieldA, fieldA, false, noNumber},
	api.OpSet:    {"set", 1, fieldA, 0, true, anyNumber},
	api.OpMove:   {"move", 1, fieldA | fieldB, fieldB, true, noNumber},
	api.OpAdd:    {"add", 1, fieldA | fieldB | fieldC, fieldB | fieldC, true, noNumber},
	api.OpSub:    {"sub", 1, fieldA | fieldB | fieldC, fieldB | fieldC, true, noNumber},
	api.OpMul:    {"mul", 3, fieldA | fieldB | fieldC, fieldB | fieldC, true, noNumber},
	api.OpDiv:    {"div", 8, fieldA | fieldB | fieldC, fieldB | fieldC, true, noNumber},
	api.OpRem:    {"rem", 8, fieldA | fieldB | fieldC, fieldB | fieldC, true, noNumber},
	api.OpLess:   {"less", 1, fieldA | fieldB | fieldC, fieldB | fieldC, true, noNumber},
	api.OpEqual:  {"equal", 1, fieldA | fieldB | fieldC, fieldB | fieldC, true, noNumber},
	api.OpNot:    {"not", 1, fieldA | fieldB, fieldB, true, noNumber},
	api.OpLoad:   {"load", 2, fieldA | fieldB, fieldB, true, anyNumber},
	api.OpStore:  {"store", 2, fieldA | fieldB, fieldA | fieldB, false, anyNumber},
	api.OpCheck:  {"check", 1, fieldA, fieldA, false, sizeNumber},
	api.OpJump:   {"jump", 1, 0, 0, false, targetNumber},
	api.OpIf:     {"if", 1, fieldA, fieldA, false, targetNumber},
	api.OpUnless: {"unless", 1, fieldA, fieldA, false, targetNumber},
	api.OpCount:  {"count", 1, fieldA | fieldB, fieldA | fieldB, false, targetNumber},
	api.OpStep:   {"step", 1, fieldA, fieldA, true, targetNumber},
	api.OpCall:   {"call", 4, fieldA | fieldB, 0, true, calleeNumber},
}

// rowOf tells an operation's row; one of zeros, if it is none.
func rowOf(op int) row {
	if !Known(op) {
		return row{}
	}
	return table[op]
}

// fields tells the numbers that stand in A, B and C, in the order of their bits.
func fields(x api.Ins) [3]int { return [3]int{x.A, x.B, x.C} }
