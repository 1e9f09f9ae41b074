package enc

import "switchback/api"

// The forms of instructions.
const (
	number = iota
	oneRegister
	twoRegisters
	place
	threeRegisters
	branch
	shortJump
	bare
	trap
)

// forms are the forms of the Ops.
var forms = [...]int{
	api.MacLI: number,

	api.MacLIT: oneRegister, api.MacJTAB: oneRegister, api.MacGETC: oneRegister, api.MacPUTC: oneRegister, api.MacEXIT: oneRegister,

	api.MacMOV: twoRegisters, api.MacNEG: twoRegisters, api.MacNOT: twoRegisters, api.MacLOW: twoRegisters, api.MacCHK: twoRegisters,

	api.MacADDI: place, api.MacLD: place, api.MacST: place,

	api.MacADD: threeRegisters, api.MacSUB: threeRegisters, api.MacMUL: threeRegisters,
	api.MacDIVS: threeRegisters, api.MacDIVU: threeRegisters, api.MacREMS: threeRegisters, api.MacREMU: threeRegisters,
	api.MacAND: threeRegisters, api.MacOR: threeRegisters, api.MacXOR: threeRegisters,
	api.MacSHL: threeRegisters, api.MacSHRS: threeRegisters, api.MacSHRU: threeRegisters,
	api.MacEQ: threeRegisters, api.MacNE: threeRegisters,
	api.MacLTS: threeRegisters, api.MacLTU: threeRegisters, api.MacLES: threeRegisters, api.MacLEU: threeRegisters,

	api.MacBEQ: branch, api.MacBNE: branch,
	api.MacBLTS: branch, api.MacBGES: branch, api.MacBLES: branch, api.MacBGTS: branch,
	api.MacBLTU: branch, api.MacBGEU: branch, api.MacBLEU: branch, api.MacBGTU: branch,

	api.MacJMP: shortJump,

	api.MacJML: bare, api.MacCALL: bare, api.MacRET: bare,

	api.MacTRAP: trap,
}

// lastRegister is the greatest number of a register.
const lastRegister = 11

// fields are what the fields of a form may be: A and B are 0 or more, Imm is least or more. A field that the form does not have can only be 0.
type fields struct {
	mostA, mostB      int
	leastImm, mostImm int
}

func fieldsOf(form int) fields {
	var f fields
	switch form {
	case number, place:
		f.leastImm, f.mostImm = -32768, 32767
	case branch, shortJump:
		f.leastImm, f.mostImm = -128, 127
	case threeRegisters:
		f.mostImm = lastRegister
	case trap:
		f.mostImm = 255
	}
	switch form {
	case place, branch, threeRegisters, twoRegisters:
		f.mostB = lastRegister
		fallthrough
	case number, oneRegister:
		f.mostA = lastRegister
	}
	return f
}

func (f fields) hold(c api.Code) bool {
	return c.A >= 0 && c.A <= f.mostA && c.B >= 0 && c.B <= f.mostB && c.Imm >= f.leastImm && c.Imm <= f.mostImm
}
