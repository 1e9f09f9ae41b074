package emit

import (
	"switchback/api"
	"switchback/machine"
)

// task is an instruction that is to be written.
type task struct {
	*writer
	api.Ins
}

func (w *writer) instruction(i api.Ins) {
	t := task{w, i}
	switch i.Op {
	case api.InsMove:
		w.move(i.D, i.A)
	case api.InsStore:
		t.store()
	case api.InsPut:
		t.putElement()
	case api.InsCall:
		t.call()
	case api.InsPutc:
		w.put(api.Line{Op: api.MacPUTC, A: w.use(i.A, machine.Result)})
	case api.InsExit:
		w.put(api.Line{Op: api.MacEXIT, A: w.use(i.A, machine.Result)})
	default:
		w.set(i.D, t.maker())
	}
}

// maker is what writes how the word that an instruction sets comes into a register.
func (t task) maker() func(register int) {
	switch t.Op {
	case api.InsConst:
		return t.number
	case api.InsNeg, api.InsNot, api.InsLow:
		return t.reckonWithOne
	case api.InsLoad:
		return t.load
	case api.InsGet:
		return t.getElement
	case api.InsGetc:
		return t.getc
	}
	return t.reckonWithTwo
}

func (t task) number(register int) {
	t.constant(register, t.N)
}

// reckonWithOne has instructions in the same order as the machine's.
func (t task) reckonWithOne(register int) {
	a := t.use(t.A, machine.Result)
	t.put(api.Line{Op: t.Op - api.InsNeg + api.MacNEG, A: register, B: a})
}

// reckonWithTwo has instructions in the same order as the machine's.
func (t task) reckonWithTwo(register int) {
	a, b := t.use(t.A, machine.Result), t.use(t.B, machine.Spare)
	t.put(api.Line{Op: t.Op - api.InsAdd + api.MacADD, A: register, B: a, Imm: b})
}

// load has the register hold the global scalar's place ahead of the scalar itself.
func (t task) load(register int) {
	t.constant(register, uint32(t.F))
	t.put(api.Line{Op: api.MacLD, A: register, B: register})
}

func (t task) store() {
	a := t.use(t.A, machine.Result)
	t.constant(machine.Spare, uint32(t.F))
	t.put(api.Line{Op: api.MacST, A: a, B: machine.Spare})
}

func (t task) getElement(register int) {
	at, behind := t.element(t.arrays[t.F], t.A)
	t.put(api.Line{Op: api.MacLD, A: register, B: at, Imm: behind})
}

func (t task) putElement() {
	at, behind := t.element(t.arrays[t.F], t.A)
	t.put(api.Line{Op: api.MacST, A: t.use(t.B, machine.Spare), B: at, Imm: behind})
}

func (t task) getc(register int) {
	t.put(api.Line{Op: api.MacGETC, A: register})
}

// call lays the arguments where the frame of the function begins that is called: where that of this one ends.
func (t task) call() {
	at := t.layout.Words
	for _, a := range t.Args {
		t.inFrame(api.MacST, t.use(a, machine.Result), at)
		at++
	}
	for _, a := range t.Arrs {
		for _, half := range []func(int, array){t.beginning, t.length} {
			half(machine.Result, t.arrays[a])
			t.inFrame(api.MacST, machine.Result, at)
			at++
		}
	}
	t.advance(t.layout.Words)
	t.put(api.Line{Op: api.MacCALL, Label: t.F})
	t.advance(-t.layout.Words)
	if t.D != -1 {
		t.keep(t.D, machine.Result)
	}
}

// advance has the frame begin elsewhere by so many words.
func (t task) advance(by int) {
	if by != 0 {
		t.shift(machine.Frame, machine.Frame, by)
	}
}
