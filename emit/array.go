package emit

import (
	"switchback/api"
	"switchback/machine"
)

// array is an array that a function knows. Of a global one at is where it begins in the memory, of a local one where it begins in the frame, of a parameter where in the frame stand the two words that were handed over for it.
type array struct {
	kind, at, words int
}

func arraysOf(m api.Module, g api.Graph, l api.Layout) []array {
	places := machine.Arrays(m)
	handed, local := len(g.Params), l.Words-l.Arrays
	arrays := make([]array, len(g.Arrays))
	for i, a := range g.Arrays {
		switch a.Kind {
		case api.ArrayGlobal:
			arrays[i] = array{a.Kind, places[a.N], m.Arrays[a.N]}
		case api.ArrayLocal:
			arrays[i] = array{a.Kind, local, a.N}
			local += a.N
		case api.ArrayParam:
			arrays[i] = array{kind: a.Kind, at: handed}
			handed += machine.Handed
		}
	}
	return arrays
}

// beginning has a register become the place in the memory at which an array begins.
func (w *writer) beginning(register int, a array) {
	switch a.kind {
	case api.ArrayGlobal:
		w.constant(register, uint32(a.at))
	case api.ArrayLocal:
		w.shift(register, machine.Frame, a.at)
	case api.ArrayParam:
		w.inFrame(api.MacLD, register, a.at)
	}
}

// length has a register become how many words an array has.
func (w *writer) length(register int, a array) {
	if a.kind == api.ArrayParam {
		w.inFrame(api.MacLD, register, a.at+1)
		return
	}
	w.constant(register, uint32(a.words))
}

// element tells where in the memory the element of an array stands that a temp is the number of: at what is in a register, and so many words behind. It traps, if there is none. Behind it the register Spare is free.
func (w *writer) element(a array, temp int) (register, behind int) {
	number := w.use(temp, machine.Result)
	w.length(machine.Spare, a)
	w.put(api.Line{Op: api.MacCHK, A: number, B: machine.Spare})
	if a.kind == api.ArrayGlobal {
		return number, a.at
	}
	base := machine.Frame
	if a.kind == api.ArrayParam {
		base = machine.Spare
		w.beginning(base, a)
		a.at = 0
	}
	w.put(api.Line{Op: api.MacADD, A: machine.Result, B: base, Imm: number})
	return machine.Result, a.at
}
