package flow

import "switchback/api"

// operation is an instruction that may be written into a graph.
type operation struct {
	*builder
	op int
}

// straight writes it for a left and a right temp.
func (o operation) straight(d, left, right int) {
	o.put(api.Ins{Op: o.op, D: d, A: left, B: right})
}

// turned writes it for a right and a left temp.
func (o operation) turned(d, left, right int) {
	o.straight(d, right, left)
}

// single writes it for one temp.
func (o operation) single(d, a int) {
	o.put(api.Ins{Op: o.op, D: d, A: a})
}

// is0 compares a temp with 0.
func (o operation) is0(d, a int) {
	o.straight(d, a, o.constant(0))
}

// decide ends a block by it.
func (o operation) decide(left, right, yes, no int) {
	o.end(api.End{Kind: api.EndIf, Op: o.op, A: left, B: right, To: yes, Else: no})
}

func (o operation) decideTurned(left, right, yes, no int) {
	o.decide(right, left, yes, no)
}

// works tells how an operator's work on two temps is written.
func (b *builder) works(op, typ int) func(d, left, right int) {
	o := operation{b, instruction(op, typ)}
	if turns(op) {
		return o.turned
	}
	return o.straight
}

// compares tells how a block is ended by what a comparison says.
func (b *builder) compares(op, typ int) func(left, right, yes, no int) {
	o := operation{b, instruction(op, typ)}
	if turns(op) {
		return o.decideTurned
	}
	return o.decide
}

// alone tells how an operator's work on one temp is written.
func (b *builder) alone(op int) func(d, a int) {
	switch op {
	case api.OpNeg:
		return operation{b, api.InsNeg}.single
	case api.OpNot:
		return operation{b, api.InsNot}.single
	case api.OpNil:
		return operation{b, api.InsEq}.is0
	}
	return b.move
}

// turns tells whether an operator is what another one is of the two words turned round: there are no instructions for what is greater.
func turns(op int) bool {
	return op == api.OpGt || op == api.OpGe
}

// instruction is the one that does an operator's work on two words.
func instruction(op, typ int) int {
	// Where it matters, the instruction for words that are not signed stands directly behind the one for those that are.
	behind := 0
	if typ == api.TypeUnsigned {
		behind = 1
	}
	switch op {
	case api.OpAdd:
		return api.InsAdd
	case api.OpSub:
		return api.InsSub
	case api.OpMul:
		return api.InsMul
	case api.OpDiv:
		return api.InsDivS + behind
	case api.OpRem:
		return api.InsRemS + behind
	case api.OpShl:
		return api.InsShl
	case api.OpShr:
		return api.InsShrS + behind
	case api.OpAnd:
		return api.InsAnd
	case api.OpOr:
		return api.InsOr
	case api.OpXor:
		return api.InsXor
	case api.OpEq:
		return api.InsEq
	case api.OpNe:
		return api.InsNe
	case api.OpLt, api.OpGt:
		return api.InsLtS + behind
	}
	return api.InsLeS + behind
}
