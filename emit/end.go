package emit

import (
	"slices"

	"switchback/api"
	"switchback/machine"
)

// branches are the branches that go where an EndIf's Op, InsEq to InsLeU, says yes. Each has beside it, its number's lowest bit turned, the one that goes where it does not.
var branches = [...]int{api.MacBEQ, api.MacBNE, api.MacBLTS, api.MacBLTU, api.MacBLES, api.MacBLEU}

func (w *writer) end(e *api.End) {
	switch e.Kind {
	case api.EndReturn:
		w.give(e.A)
		w.jump(w.leaving())
	case api.EndIf:
		w.either(e)
	case api.EndTable:
		w.table(e)
	case api.EndSwitch:
		w.cases(e)
		fallthrough
	case api.EndJump:
		w.jump(e.To)
	}
}

// give has the register Result become what the function gives back: a temp, or 0.
func (w *writer) give(temp int) {
	if temp == -1 {
		w.constant(machine.Result, 0)
		return
	}
	w.fetch(machine.Result, temp)
}

// either goes to one of two places; it falls into one that stands behind.
func (w *writer) either(e *api.End) {
	a, b := w.use(e.A, machine.Result), w.use(e.B, machine.Spare)
	op := branches[e.Op-api.InsEq]
	if e.To == w.next {
		w.branch(op^1, a, b, e.Else)
		return
	}
	w.branch(op, a, b, e.To)
	w.jump(e.Else)
}

// cases goes to the place of the case whose number there is, if there is one.
func (w *writer) cases(e *api.End) {
	a := w.use(e.A, machine.Result)
	for _, c := range e.Cases {
		w.constant(machine.Spare, c.N)
		w.branch(api.MacBEQ, a, machine.Spare, c.To)
	}
}

// table goes to To where there is no target: MacJTAB would trap.
func (w *writer) table(e *api.End) {
	number := w.use(e.A, machine.Result)
	if e.N != 0 {
		w.constant(machine.Spare, e.N)
		w.put(api.Line{Op: api.MacSUB, A: machine.Result, B: number, Imm: machine.Spare})
		number = machine.Result
	}
	w.constant(machine.Spare, uint32(len(e.Targets)))
	w.branch(api.MacBGEU, number, machine.Spare, e.To)
	w.put(api.Line{Op: api.MacJTAB, A: number, List: slices.Clone(e.Targets)})
}
