package relax

import (
	"switchback/api"
	"switchback/enc"
)

// branches tells whether lines of an Op are short or long.
func branches(op int) bool {
	return op >= api.MacBEQ && op <= api.MacJMP
}

// leads tells whether lines of an Op go to their Label.
func leads(op int) bool {
	return branches(op) || op == api.MacJML || op == api.MacCALL
}

// goals are the labels that a line goes to.
func goals(x api.Line) []int {
	if leads(x.Op) {
		return []int{x.Label}
	}
	return x.List
}

// wrong tells why a line may not be, whatever the others are.
func wrong(x api.Line) api.Errno {
	if x.Op < api.LineLabel || x.Op > api.MacTRAP {
		return api.ErrRelaxOp
	}
	if !operandsFit(x) || !labelFits(x) || !listFits(x) || x.N != 0 && x.Op != api.MacLIT {
		return api.ErrRelaxOperand
	}
	return api.OK
}

// operandsFit tells whether A, B and Imm are as they must be. (The Imm of a branch's word is not the line's to say.)
func operandsFit(x api.Line) bool {
	if x.Op == api.LineLabel {
		return x.A == 0 && x.B == 0 && x.Imm == 0
	}
	_, e := enc.Encode(codeOf(x))
	return e == api.OK && (x.Imm == 0 || !branches(x.Op))
}

// codeOf is a line as an instruction, as far as it is one.
func codeOf(x api.Line) api.Code {
	return api.Code{Op: x.Op, A: x.A, B: x.B, Imm: x.Imm}
}

func labelFits(x api.Line) bool {
	if x.Op == api.LineLabel || leads(x.Op) {
		return isLabel(x.Label)
	}
	return x.Label == 0
}

func isLabel(n int) bool {
	return n >= 0 && n <= api.MaxLabel
}

func listFits(x api.Line) bool {
	if x.Op != api.MacJTAB {
		return len(x.List) == 0
	}
	if len(x.List) == 0 || len(x.List) > api.MaxTable {
		return false
	}
	for _, label := range x.List {
		if !isLabel(label) {
			return false
		}
	}
	return true
}
