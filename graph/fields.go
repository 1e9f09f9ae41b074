package graph

import "switchback/api"

// The fields that instructions and ends may have, as bits; the Op or Kind that says which is none of them.
const (
	fieldOp = 1 << iota
	fieldD
	fieldA
	fieldB
	fieldF
	fieldN
	fieldArgs
	fieldArrs
	fieldTo
	fieldElse
	fieldCases
	fieldTargets
)

const (
	fieldsOne = fieldD | fieldA
	fieldsTwo = fieldD | fieldA | fieldB
)

// fields are those of an instruction or an end; of a list it is how long it is. So all of them can be held against others at once.
type fields struct {
	op, d, a, b, f int
	n              uint32
	args, arrs     int
	to, other      int
	cases, targets int
}

func insFields(i *api.Ins) fields {
	return fields{d: i.D, a: i.A, b: i.B, f: i.F, n: i.N, args: len(i.Args), arrs: len(i.Arrs)}
}

func endFields(e *api.End) fields {
	return fields{op: e.Op, a: e.A, b: e.B, n: e.N, to: e.To, other: e.Else, cases: len(e.Cases), targets: len(e.Targets)}
}

// only leaves the fields that there are, and makes all others zero.
func (f fields) only(there int) fields {
	keep := func(field, value int) int {
		if there&field == 0 {
			return 0
		}
		return value
	}
	return fields{
		op:      keep(fieldOp, f.op),
		d:       keep(fieldD, f.d),
		a:       keep(fieldA, f.a),
		b:       keep(fieldB, f.b),
		f:       keep(fieldF, f.f),
		n:       uint32(keep(fieldN, int(f.n))),
		args:    keep(fieldArgs, f.args),
		arrs:    keep(fieldArrs, f.arrs),
		to:      keep(fieldTo, f.to),
		other:   keep(fieldElse, f.other),
		cases:   keep(fieldCases, f.cases),
		targets: keep(fieldTargets, f.targets),
	}
}

// insHas tells which fields an instruction has.
func insHas(op int) int {
	switch op {
	case api.InsConst:
		return fieldD | fieldN
	case api.InsMove, api.InsNeg, api.InsNot, api.InsLow:
		return fieldsOne
	case api.InsLoad:
		return fieldD | fieldF
	case api.InsStore:
		return fieldF | fieldA
	case api.InsGet:
		return fieldsOne | fieldF
	case api.InsPut:
		return fieldF | fieldA | fieldB
	case api.InsCall:
		return fieldD | fieldF | fieldArgs | fieldArrs
	case api.InsGetc:
		return fieldD
	case api.InsPutc, api.InsExit:
		return fieldA
	}
	return fieldsTwo
}

// endHas tells which fields an end has.
func endHas(kind int) int {
	switch kind {
	case api.EndJump:
		return fieldTo
	case api.EndIf:
		return fieldOp | fieldA | fieldB | fieldTo | fieldElse
	case api.EndSwitch:
		return fieldA | fieldCases | fieldTo
	case api.EndTable:
		return fieldA | fieldN | fieldTargets | fieldTo
	}
	return fieldA
}
