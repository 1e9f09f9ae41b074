package emit

import (
	"switchback/api"
	"switchback/machine"
)

// inRegister tells whether a temp is a register: the one of its own number.
func inRegister(temp int) bool {
	return temp < api.Regs
}

// slot is where in the frame a temp stands that is no register.
func (w *writer) slot(temp int) int {
	return w.layout.Args + len(w.layout.Saved) + temp - api.Regs
}

// use is the register in which a temp is: its own one, or a free one into which it is loaded.
func (w *writer) use(temp, free int) int {
	if inRegister(temp) {
		return temp
	}
	w.fetch(free, temp)
	return free
}

// set has a temp become what is written to come into a register.
func (w *writer) set(temp int, write func(register int)) {
	if inRegister(temp) {
		write(temp)
		return
	}
	write(machine.Result)
	w.keep(temp, machine.Result)
}

// keep has a temp become what is in a register.
func (w *writer) keep(temp, register int) {
	if inRegister(temp) {
		w.again(temp, register)
		return
	}
	w.inFrame(api.MacST, register, w.slot(temp))
}

// fetch has a register become what a temp is.
func (w *writer) fetch(register, temp int) {
	if inRegister(temp) {
		w.again(register, temp)
		return
	}
	w.inFrame(api.MacLD, register, w.slot(temp))
}

// move has a temp become what another one is.
func (w *writer) move(temp, from int) {
	if inRegister(temp) {
		w.fetch(temp, from)
		return
	}
	w.keep(temp, w.use(from, machine.Result))
}

// again has a register become what another one is, if they are two.
func (w *writer) again(register, from int) {
	if register != from {
		w.put(api.Line{Op: api.MacMOV, A: register, B: from})
	}
}
