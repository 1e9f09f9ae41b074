package list

import (
	"slices"

	"switchback/api"
	"switchback/enc"
	"switchback/relax"
)

// mayBe tells whether the assembler takes a line, whatever the others are.
func mayBe(x api.Line) bool {
	_, _, e := relax.Assemble([]api.Line{x})
	return e != api.ErrRelaxOp && e != api.ErrRelaxOperand
}

// isCode tells whether an instruction may be. (A field that an Op has may be 1, so it tells which fields an Op has.)
func isCode(c api.Code) bool {
	_, e := enc.Encode(c)
	return e == api.OK
}

// reckons tells whether Imm of an Op is a register.
func reckons(op int) bool {
	return op >= api.MacADD && op <= api.MacLEU
}

// counts tells whether an Op has an Imm that is a number.
func counts(op int) bool {
	return isCode(api.Code{Op: op, Imm: 1}) && !reckons(op)
}

// leads tells whether lines of an Op go to their Label.
func leads(op int) bool {
	return op >= api.MacBEQ && op <= api.MacJML || op == api.MacCALL
}

// registers are the words with which an instruction begins: its name, and its registers.
func registers(c api.Code) []any {
	words := []any{name(c.Op)}
	if isCode(api.Code{Op: c.Op, A: 1}) {
		words = append(words, register(c.A))
	}
	if isCode(api.Code{Op: c.Op, B: 1}) {
		words = append(words, register(c.B))
	}
	if reckons(c.Op) {
		words = append(words, register(c.Imm))
	}
	return words
}

// codeWords are the words of an instruction.
func codeWords(c api.Code) []any {
	words := registers(c)
	if counts(c.Op) {
		words = append(words, number(c.Imm))
	}
	return words
}

// wordsOf are the words of a line.
func wordsOf(x api.Line) []any {
	c := api.Code{Op: x.Op, A: x.A, B: x.B, Imm: x.Imm}
	switch {
	case x.Op == api.LineLabel:
		return []any{mark(x.Label)}
	case x.Op == api.MacLIT:
		return append(registers(c), number(x.N))
	case leads(x.Op):
		return append(registers(c), label(x.Label))
	}
	words := codeWords(c)
	for _, l := range x.List {
		words = append(words, label(l))
	}
	return words
}

// lineOf tells which line has just these words, if there is one.
func lineOf(words []any) (api.Line, bool) {
	var f filler
	for _, w := range words {
		f.put(w)
	}
	return f.line, mayBe(f.line) && slices.Equal(wordsOf(f.line), words)
}

// filler puts words into the fields of a line, each into that which words of its sort are for. Whether they are the line's words is seen by the line.
type filler struct {
	line      api.Line
	registers int // how many it has got
}

func (f *filler) put(word any) {
	switch w := word.(type) {
	case name:
		f.line.Op = int(w)
	case register:
		f.register(int(w))
	case number:
		f.number(int(w))
	case label:
		f.label(int(w))
	case mark:
		f.line.Label = int(w)
	}
}

func (f *filler) register(n int) {
	switch f.registers {
	case 0:
		f.line.A = n
	case 1:
		f.line.B = n
	case 2:
		f.line.Imm = n
	}
	f.registers++
}

func (f *filler) number(n int) {
	if f.line.Op == api.MacLIT {
		f.line.N = uint32(n)
		return
	}
	f.line.Imm = n
}

func (f *filler) label(n int) {
	if f.line.Op == api.MacJTAB {
		f.line.List = append(f.line.List, n)
		return
	}
	f.line.Label = n
}
