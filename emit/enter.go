package emit

import (
	"slices"

	"switchback/api"
	"switchback/live"
	"switchback/machine"
)

// enter writes what comes ahead of the block 0: registers are kept for the caller, and all is as it is to be at a call's beginning.
func (w *writer) enter() {
	w.saved(api.MacST)
	w.noughts()
	for k, p := range w.graph.Params {
		w.set(p, func(register int) { w.inFrame(api.MacLD, register, k) })
	}
}

// leave writes what gives the caller its registers back, and goes there.
func (w *writer) leave() {
	w.saved(api.MacLD)
	w.put(api.Line{Op: api.MacRET})
}

// saved stores the registers that are kept, or loads them.
func (w *writer) saved(op int) {
	for k, register := range w.layout.Saved {
		w.inFrame(op, register, w.layout.Args+k)
	}
}

// noughts has all become 0 that a call begins with as 0, if somebody asks for it.
func (w *writer) noughts() {
	blank := w.blank()
	if len(blank) == 0 && w.layout.Arrays == 0 {
		return
	}
	w.constant(machine.Result, 0)
	if w.layout.Arrays > 0 {
		w.clear()
	}
	for _, t := range blank {
		w.keep(t, machine.Result)
	}
}

// blank are the temps that are needed where the function begins, but for the parameters.
func (w *writer) blank() []int {
	needed, _ := live.Live(w.graph)
	return slices.DeleteFunc(needed[0], func(t int) bool { return slices.Contains(w.graph.Params, t) })
}

// clear has the local arrays become what is in the register Result, word by word: they stand at the frame's end.
func (w *writer) clear() {
	w.shift(machine.Spare, machine.Frame, w.layout.Words-w.layout.Arrays)
	w.shift(machine.Borrowed, machine.Frame, w.layout.Words)
	w.stand(w.clearing())
	w.put(api.Line{Op: api.MacST, A: machine.Result, B: machine.Spare})
	w.shift(machine.Spare, machine.Spare, 1)
	w.branch(api.MacBLTU, machine.Spare, machine.Borrowed, w.clearing())
}

// shift has a register become what another one is and a number, together.
func (w *writer) shift(register, from, by int) {
	w.put(api.Line{Op: api.MacADDI, A: register, B: from, Imm: by})
}
